/- annexlaw7.town by its contract, where its numbers may not be. -/
import Derived.Test.YtnmdnglbpkpfdaaGreatDoorPk11
namespace Go.Proofs.YtnmdnglbpkpfdaaGreatDoor
open Go.RowKit Go.Maps
set_option maxRecDepth 100000
set_option maxHeartbeats 4000000 in
theorem town_bad (w : World) (n st sz : Int) (hv : n < 30 ∨ 200 < n ∨ st < 0 ∨ sz < 27 ∨ n - 1 < sz ∨ n - sz < st) :
    Calls Tryz.prog 10 #[.int .i64 n, .int .i64 st, .int .i64 sz] w fun e w' => ∃ tw db N G ov wv xs, e = .returned (.tuple #[.pointer (some ⟨tw, 0, none⟩), .bool true]) ∧ Dev w' db 0 F40 40 N G ∧ N ≤ 1000 ∧ (∀ i, G i → w.heap.size ≤ i) ∧ Tn w' G tw db ov wv (outs 40) xs ∧ xs.length = 10 ∧ (∀ x ∈ xs, x.bs = zB) ∧ w.heap.size ≤ tw ∧ (∀ b, ov.ownBlock = some b → w.heap.size ≤ b) ∧ Below w.heap.size w w' := by
  obtain ⟨i0, hi, hz0, hz1, hz2⟩ := info_parts Tryz.info3
  obtain ⟨i1, ki, kz0, kz1, kz2⟩ := info_parts Tryz.infoS7
  by_cases c0 : n < 30
  · as_aux_lemma =>
    go_enter Tryz.func10, Tryz.ntmps10
    go_wp2_with fail
    refine (new_good 40 w (by omega) (by omega)).mono ?_
    rintro e w1 ⟨db, rfl, D1, b1⟩
    replace D1 : Dev w1 db 0 S40 40 0 (grow (fun _ => False) w w1) := D1
    obtain ⟨W2, hW2⟩ : ∃ W, w1.alloc (.cells #[.pointer (some ⟨db, 0, none⟩), .int .i64 2, .int .i64 30, .slice none 0 0, .slice none 0 0] 42) = W := ⟨_, rfl⟩
    have b2 : Below w1.heap.size w1 W2 := by rw [← hW2]; exact (Below.refl _ w1).alloc (Nat.le_refl _) _
    have s2 : W2.heap.size = w1.heap.size + 1 := by rw [← hW2]; simp
    have X2 : W2.heap[w1.heap.size]? = some (.cells #[.pointer (some ⟨db, 0, none⟩), .int .i64 2, .int .i64 30, .slice none 0 0, .slice none 0 0] 42) := by rw [← hW2]; exact (MapKept.heap_alloc w1 _).1
    have D2 := D1.below b2
    obtain ⟨tw, htw⟩ : ∃ tw, w1.heap.size = tw := ⟨_, rfl⟩
    rw [htw] at X2
    have q0 : W2.cell? ⟨tw, 0, none⟩ = some (.pointer (some ⟨db, 0, none⟩)) := by simp [World.cell?, X2]
    go_wp2_with fail
    try rw [hW2]
    try rw [htw]
    refine (format40 D2 (by omega)).mono ?_
    rintro e w3 ⟨rfl, D3, t3⟩
    have sb1 := b1.size
    have f1 : ∀ i, grow (fun _ => False) w w1 i → w.heap.size ≤ i ∧ i < w1.heap.size := fun i hi => hi.elim False.elim (fun r => r)
    have X3 := (t3.block tw (heap_lt X2) (fun r => by have := f1 tw r; omega)).trans X2
    have b02 : Below w.heap.size w W2 := b1.trans (b2.mono b1.size)
    have B3 : Below w.heap.size w w3 := b02.trans (t3.below (fun i r => (f1 i r).1) b02.size)
    have f3 : ∀ i, grow (grow (fun _ => False) w w1) W2 w3 i → w.heap.size ≤ i ∧ i ≠ tw := fun i hi => hi.elim (fun r => ⟨(f1 i r).1, by have := f1 i r; omega⟩) (fun r => ⟨by omega, by omega⟩)
    generalize grow (grow (fun _ => False) w w1) W2 w3 = G at D3 f3
    have hGl := D3.lt
    have T3 : Tn w3 G tw db (.slice none 0 0) (.slice none 0 0) (outs 0) [] := ⟨X3, ⟨⟨rfl, Or.inl ⟨rfl, rfl⟩⟩, (fun b hb => by cases hb)⟩, ⟨⟨rfl, Or.inl ⟨rfl, rfl⟩⟩, (fun b hb => by cases hb), (fun x hx => by cases hx)⟩, fun r => (f3 tw r).2 rfl⟩
    have ltw : w.heap.size ≤ tw := by omega
    clear D1 D2 t3 q0 X2 X3 hW2 f1
    go_wp2_with fail
    go_loopw [10] (fun i wr => ∃ (b : Nat), b ≤ 40 ∧ i = .int .i64 b ∧ TR w G tw db b wr) (fun i _ => 40 - (intOf i).toNat)
    case atStart => exact ⟨0, by omega, rfl, _, _, [], D3, T3, rfl, (fun x hx => by cases hx), (fun c hc => by cases hc), (fun c hc => by cases hc), B3⟩
    case round =>
      clear D3 T3 B3
      obtain ⟨b, hb, rfl, ov, wv, xs, D, T, hxl, hxz, lo, lw, B⟩ := hrel
      obtain ⟨w4, hw4⟩ : ∃ w4, w4 = wr := ⟨wr, rfl⟩
      subst hw4
      by_cases hlt : b < 40
      · have hbi : (b : Int) < 40 := by omega
        by_cases ho : outB7 b = true
        · have y3 : w4.cell? ⟨tw, 3, none⟩ = some ov := by simp [World.cell?, T.box]
          have y4 : w4.cell? ⟨tw, 4, none⟩ = some wv := by simp [World.cell?, T.box]
          have r3 := T.o.row
          have ol := outs_le b
          have s4 := B.size
          have tl := heap_lt T.box
          have hD4 := D.lt
          obtain ⟨L, hL⟩ : ∃ L, (outs b).length = L := ⟨_, rfl⟩
          have HL : Hid ((outs b).length = L) := hL
          rw [hL] at r3 ol hxl
          clear hL
          by_cases hb2 : b < 2
          · have hb2i : (b : Int) < 2 := by omega
            go_wp2_with (first
              | (at_builtin; refine wpList_append_lies _ rfl _ _ 40 rfl 0 3 i0 (.int .i64 0) 1 8 Tryz.underlying40 hi hz0 hz1 hz2 rfl (by decide) ov L _ rfl (r3.alloc _) ⟨w4.heap.size, 0, none⟩ 1 1 [.int .i64 (b : Nat)] rfl rfl (cell_one7 _ _ _) (by intro u hu; simp at hu; subst hu; rfl) (by decide) (by unfold maxLen; omega) (by omega) (by omega) _ rfl ?_; intro g5 c5 w5 ho5 hg5 hat5 hlt5; have T5 := T.grow1 tl r3 hg5; have z3 : w5.cell? ⟨tw, 3, none⟩ = some ov := by { simp [World.cell?, T5.box] }; have zf : w5.frozen? ⟨tw, 3, none⟩ = false := by { simp [World.frozen?, T5.box] }))
            have hN6 := T.out HL.out D.lt ho5 hg5 hat5
            obtain ⟨W6, hW6⟩ : ∃ W6, w5.setCell ⟨tw, 3, none⟩ (.slice (some ⟨g5, 0, none⟩) (L + 1) c5) = W6 := ⟨_, rfl⟩
            rw [hW6] at hN6
            try rw [hW6]
            obtain ⟨T6, t6⟩ := hN6
            have y4d : W6.drew.cell? ⟨tw, 4, none⟩ = some wv := by
              have : W6.drew.heap[tw]? = _ := T6.box
              simp [World.cell?, this]
            clear z3 zf T5 y3 y4
            refine wp_region_held_drew (S := fun _ => True) (by kernel_rfl) trivial (fun hHeld => ?_)
            clear hHeld
            refine wpAnyH_take (i := 0) (oi := ⟨some 81, .move (.tmp 8), 25, "free.go:45", #[], none⟩) (v := (.pointer (some ⟨tw, 0, none⟩))) rfl (by kernel_rfl) (by kernel_rfl) (by kernel_rfl) (fun _ _ _ h => h) (Or.inl ⟨by rfl, fun _ _ => by rfl⟩) trivial ?_
            simp only [Act.put, List.setIfInBounds_toArray, List.set_cons_zero, List.set_cons_succ]
            refine wpAnyH_take (i := 1) (oi := ⟨some 82, .move (.tmp 8), 25, "free.go:45", #[], none⟩) (v := (.pointer (some ⟨tw, 0, none⟩))) rfl (by kernel_rfl) (by kernel_rfl) (by kernel_rfl) (fun _ _ _ h => h) (Or.inl ⟨by rfl, fun _ _ => by rfl⟩) trivial ?_
            simp only [Act.put, List.setIfInBounds_toArray, List.set_cons_zero, List.set_cons_succ]
            refine wpAnyH_take (i := 2) (oi := ⟨some 83, .nilCheck (.tmp 82), 0, "free.go:45", #[⟨1, .data⟩], none⟩) (v := (.pointer (some ⟨tw, 0, none⟩))) rfl (by kernel_rfl) (by kernel_rfl) (by kernel_rfl) (fun _ _ _ h => h) (Or.inl ⟨by rfl, fun _ _ => by rfl⟩) trivial ?_
            simp only [Act.put, List.setIfInBounds_toArray, List.set_cons_zero, List.set_cons_succ]
            refine wpAnyH_take (i := 3) (oi := ⟨some 84, .fieldAddr 42 (.tmp 83) 4, 0, "free.go:45", #[⟨2, .data⟩], none⟩) (v := (.pointer (some ⟨tw, 4, none⟩))) rfl (by kernel_rfl) (by kernel_rfl) (by kernel_rfl) (fun _ _ _ h => h) (Or.inl ⟨by rfl, fun _ _ => by rfl⟩) trivial ?_
            simp only [Act.put, List.setIfInBounds_toArray, List.set_cons_zero, List.set_cons_succ]
            refine wpAnyH_ready (rs := [4, 5]) (by kernel_rfl) (by simp) ?_
            refine AllReadyH.cons (o := ⟨some 85, .load 33 (.tmp 84), 33, "free.go:45", #[⟨3, .data⟩], none⟩) rfl (fun KK hK => ?_) (AllReadyH.cons (o := ⟨some 86, .call ⟨.value (.func 28), #[.const (.slice none 0 0)], #[56]⟩, 56, "free.go:45", #[], none⟩) rfl (fun KK hK => ?_) (AllReadyH.nil))
            · go_simp
              refine hK.out _ _ trivial (fun hHeld => ?_)
              clear hK KK hHeld
              try simp only [Act.put, List.setIfInBounds_toArray, List.set_cons_zero, List.set_cons_succ]
              refine wpAnyH_ready (rs := [5]) (by kernel_rfl) (by simp) ?_
              refine AllReadyH.cons (o := ⟨some 86, .call ⟨.value (.func 28), #[.const (.slice none 0 0)], #[56]⟩, 56, "free.go:45", #[], none⟩) rfl (fun KK hK => ?_) (AllReadyH.nil)
              go_simp
              refine (block7 none 0 0 [] W6.drew (by omega) (Lies.nil _)).mono ?_
              rintro e w7 ⟨g7, c7, rfl, o7, b7⟩
              replace b7 := Below.fromDrew b7
              have T7 := T6.kp (Kp.below b7)
              have u4 : w7.cell? ⟨tw, 4, none⟩ = some wv := by simp [World.cell?, T7.box]
              have u4a : ∀ o, (w7.alloc o).cell? ⟨tw, 4, none⟩ = some wv := fun o => by
                have := (Below.heap_alloc w7 o tw (heap_lt T7.box)).trans T7.box
                simp [World.cell?, this]
              go_wp2_with fail
              refine hK.out _ _ trivial (fun hHeld => ?_)
              clear hK KK hHeld
              try simp only [Act.put, List.setIfInBounds_toArray, List.set_cons_zero, List.set_cons_succ]
              refine wpAnyH_ready (rs := [6]) (by kernel_rfl) (by simp) ?_
              refine AllReadyH.cons (o := ⟨some 87, .buildSlice 33 1 #[(0, .tmp 86)], 33, "free.go:45", #[⟨5, .data⟩], none⟩) rfl (fun KK hK => ?_) (AllReadyH.nil)
              go_simp
              refine hK.out _ _ trivial (fun hHeld => ?_)
              clear hK KK hHeld
              try simp only [Act.put, List.setIfInBounds_toArray, List.set_cons_zero, List.set_cons_succ]
              refine wpAnyH_ready (rs := [7]) (by kernel_rfl) (by simp) ?_
              refine AllReadyH.cons (o := ⟨some 88, .call ⟨.builtin .append, #[.tmp 85, .tmp 87], #[33, 33]⟩, 33, "free.go:45", #[⟨4, .data⟩, ⟨6, .data⟩, ⟨5, .chain⟩], none⟩) rfl (fun KK hK => ?_) (AllReadyH.nil)
              have rw7 : w7.ownsRow 0 56 1 wv L (xs.map It.val) := by
                have := T7.x.row
                rwa [hxl] at this
              refine step_append_lies _ rfl _ _ 33 rfl 0 56 i1 (.slice none 0 0) 1 24 Tryz.underlying33 ki kz0 kz1 kz2 rfl (by decide) wv L _ rfl (rw7.alloc _) ⟨w7.heap.size, 0, none⟩ 1 1 [.slice (some ⟨g7, 0, none⟩) 512 c7] rfl rfl (cell_one7 _ _ _) (by intro u hu; simp at hu; subst hu; rfl) (by decide) (by unfold maxLen; omega) (by omega) (by omega) _ rfl ?_
              intro g8 c8 w8 ho8 hg8 hat8 hlt8
              have X8 := T7.grow2 hg8
              have z4 : w8.cell? ⟨tw, 4, none⟩ = some wv := by simp [World.cell?, X8]
              have zf8 : w8.frozen? ⟨tw, 4, none⟩ = false := by simp [World.frozen?, X8]
              refine hK.out _ _ trivial (fun hHeld => ?_)
              clear hK KK hHeld
              try simp only [Act.put, List.setIfInBounds_toArray, List.set_cons_zero, List.set_cons_succ]
              refine wpAnyH_take (i := 8) (oi := ⟨some 89, .nilCheck (.tmp 81), 0, "free.go:45", #[⟨0, .data⟩, ⟨0, .phase⟩, ⟨1, .phase⟩, ⟨2, .phase⟩, ⟨3, .phase⟩, ⟨4, .phase⟩, ⟨5, .phase⟩, ⟨6, .phase⟩, ⟨7, .phase⟩], none⟩) (v := (.pointer (some ⟨tw, 0, none⟩))) rfl (by kernel_rfl) (by kernel_rfl) (by kernel_rfl) (fun _ _ _ h => h) (Or.inl ⟨by rfl, fun _ _ => by rfl⟩) trivial ?_
              simp only [Act.put, List.setIfInBounds_toArray, List.set_cons_zero, List.set_cons_succ]
              refine wpAnyH_take (i := 9) (oi := ⟨some 90, .fieldAddr 42 (.tmp 89) 4, 0, "free.go:45", #[⟨8, .data⟩, ⟨0, .phase⟩, ⟨1, .phase⟩, ⟨2, .phase⟩, ⟨3, .phase⟩, ⟨4, .phase⟩, ⟨5, .phase⟩, ⟨6, .phase⟩, ⟨7, .phase⟩], none⟩) (v := (.pointer (some ⟨tw, 4, none⟩))) rfl (by kernel_rfl) (by kernel_rfl) (by kernel_rfl) (fun _ _ _ h => h) (Or.inl ⟨by rfl, fun _ _ => by rfl⟩) trivial ?_
              simp only [Act.put, List.setIfInBounds_toArray, List.set_cons_zero, List.set_cons_succ]
              refine wpAnyH_ready (rs := [10]) (by kernel_rfl) (by simp) ?_
              refine AllReadyH.cons (o := ⟨none, .store 33 (.tmp 90) (.tmp 88), 0, "free.go:45", #[⟨9, .data⟩, ⟨7, .data⟩, ⟨7, .chain⟩, ⟨0, .phase⟩, ⟨1, .phase⟩, ⟨2, .phase⟩, ⟨3, .phase⟩, ⟨4, .phase⟩, ⟨5, .phase⟩, ⟨6, .phase⟩, ⟨7, .phase⟩], none⟩) rfl (fun KK hK => ?_) (AllReadyH.nil)
              go_simp
              refine hK.out _ _ trivial (fun hHeld => ?_)
              clear hK KK hHeld
              try simp only [Act.put, List.setIfInBounds_toArray, List.set_cons_zero, List.set_cons_succ]
              refine wpAnyH_done (by kernel_rfl) ?_ _
              have HE := town_end D T B ltw lo lw ho HL.out hxl hxz hat5 T6 t6 o7 b7 ho8 hg8 hat8
              obtain ⟨W9, hW9⟩ : ∃ W9, w8.setCell ⟨tw, 4, none⟩ (.slice (some ⟨g8, 0, none⟩) (L + 1) c8) = W9 := ⟨_, rfl⟩
              rw [hW9] at HE
              try rw [hW9]
              clear hW9 z4 zf8 X8 ho8 hg8 hat8 hlt8 rw7 u4 u4a T7 o7 b7 T6 t6 hW6 y4d ho5 hg5 hat5 hlt5 T D
              go_wp2_with fail
              go_roundw
              case rel => exact ⟨b + 1, by omega, by simp, HE⟩
              case measure => simp [intOf]; omega
            · go_simp
              refine (block7 none 0 0 [] W6.drew (by omega) (Lies.nil _)).mono ?_
              rintro e w7 ⟨g7, c7, rfl, o7, b7⟩
              replace b7 := Below.fromDrew b7
              have T7 := T6.kp (Kp.below b7)
              have u4 : w7.cell? ⟨tw, 4, none⟩ = some wv := by simp [World.cell?, T7.box]
              have u4a : ∀ o, (w7.alloc o).cell? ⟨tw, 4, none⟩ = some wv := fun o => by
                have := (Below.heap_alloc w7 o tw (heap_lt T7.box)).trans T7.box
                simp [World.cell?, this]
              go_wp2_with fail
              refine hK.out _ _ trivial (fun hHeld => ?_)
              clear hK KK hHeld
              try simp only [Act.put, List.setIfInBounds_toArray, List.set_cons_zero, List.set_cons_succ]
              refine wpAnyH_ready (rs := [4, 6]) (by kernel_rfl) (by simp) ?_
              refine AllReadyH.cons (o := ⟨some 85, .load 33 (.tmp 84), 33, "free.go:45", #[⟨3, .data⟩], none⟩) rfl (fun KK hK => ?_) (AllReadyH.cons (o := ⟨some 87, .buildSlice 33 1 #[(0, .tmp 86)], 33, "free.go:45", #[⟨5, .data⟩], none⟩) rfl (fun KK hK => ?_) (AllReadyH.nil))
              · go_simp
                refine hK.out _ _ trivial (fun hHeld => ?_)
                clear hK KK hHeld
                try simp only [Act.put, List.setIfInBounds_toArray, List.set_cons_zero, List.set_cons_succ]
                refine wpAnyH_ready (rs := [6]) (by kernel_rfl) (by simp) ?_
                refine AllReadyH.cons (o := ⟨some 87, .buildSlice 33 1 #[(0, .tmp 86)], 33, "free.go:45", #[⟨5, .data⟩], none⟩) rfl (fun KK hK => ?_) (AllReadyH.nil)
                go_simp
                refine hK.out _ _ trivial (fun hHeld => ?_)
                clear hK KK hHeld
                try simp only [Act.put, List.setIfInBounds_toArray, List.set_cons_zero, List.set_cons_succ]
                refine wpAnyH_ready (rs := [7]) (by kernel_rfl) (by simp) ?_
                refine AllReadyH.cons (o := ⟨some 88, .call ⟨.builtin .append, #[.tmp 85, .tmp 87], #[33, 33]⟩, 33, "free.go:45", #[⟨4, .data⟩, ⟨6, .data⟩, ⟨5, .chain⟩], none⟩) rfl (fun KK hK => ?_) (AllReadyH.nil)
                have rw7 : w7.ownsRow 0 56 1 wv L (xs.map It.val) := by
                  have := T7.x.row
                  rwa [hxl] at this
                refine step_append_lies _ rfl _ _ 33 rfl 0 56 i1 (.slice none 0 0) 1 24 Tryz.underlying33 ki kz0 kz1 kz2 rfl (by decide) wv L _ rfl (rw7.alloc _) ⟨w7.heap.size, 0, none⟩ 1 1 [.slice (some ⟨g7, 0, none⟩) 512 c7] rfl rfl (cell_one7 _ _ _) (by intro u hu; simp at hu; subst hu; rfl) (by decide) (by unfold maxLen; omega) (by omega) (by omega) _ rfl ?_
                intro g8 c8 w8 ho8 hg8 hat8 hlt8
                have X8 := T7.grow2 hg8
                have z4 : w8.cell? ⟨tw, 4, none⟩ = some wv := by simp [World.cell?, X8]
                have zf8 : w8.frozen? ⟨tw, 4, none⟩ = false := by simp [World.frozen?, X8]
                refine hK.out _ _ trivial (fun hHeld => ?_)
                clear hK KK hHeld
                try simp only [Act.put, List.setIfInBounds_toArray, List.set_cons_zero, List.set_cons_succ]
                refine wpAnyH_take (i := 8) (oi := ⟨some 89, .nilCheck (.tmp 81), 0, "free.go:45", #[⟨0, .data⟩, ⟨0, .phase⟩, ⟨1, .phase⟩, ⟨2, .phase⟩, ⟨3, .phase⟩, ⟨4, .phase⟩, ⟨5, .phase⟩, ⟨6, .phase⟩, ⟨7, .phase⟩], none⟩) (v := (.pointer (some ⟨tw, 0, none⟩))) rfl (by kernel_rfl) (by kernel_rfl) (by kernel_rfl) (fun _ _ _ h => h) (Or.inl ⟨by rfl, fun _ _ => by rfl⟩) trivial ?_
                simp only [Act.put, List.setIfInBounds_toArray, List.set_cons_zero, List.set_cons_succ]
                refine wpAnyH_take (i := 9) (oi := ⟨some 90, .fieldAddr 42 (.tmp 89) 4, 0, "free.go:45", #[⟨8, .data⟩, ⟨0, .phase⟩, ⟨1, .phase⟩, ⟨2, .phase⟩, ⟨3, .phase⟩, ⟨4, .phase⟩, ⟨5, .phase⟩, ⟨6, .phase⟩, ⟨7, .phase⟩], none⟩) (v := (.pointer (some ⟨tw, 4, none⟩))) rfl (by kernel_rfl) (by kernel_rfl) (by kernel_rfl) (fun _ _ _ h => h) (Or.inl ⟨by rfl, fun _ _ => by rfl⟩) trivial ?_
                simp only [Act.put, List.setIfInBounds_toArray, List.set_cons_zero, List.set_cons_succ]
                refine wpAnyH_ready (rs := [10]) (by kernel_rfl) (by simp) ?_
                refine AllReadyH.cons (o := ⟨none, .store 33 (.tmp 90) (.tmp 88), 0, "free.go:45", #[⟨9, .data⟩, ⟨7, .data⟩, ⟨7, .chain⟩, ⟨0, .phase⟩, ⟨1, .phase⟩, ⟨2, .phase⟩, ⟨3, .phase⟩, ⟨4, .phase⟩, ⟨5, .phase⟩, ⟨6, .phase⟩, ⟨7, .phase⟩], none⟩) rfl (fun KK hK => ?_) (AllReadyH.nil)
                go_simp
                refine hK.out _ _ trivial (fun hHeld => ?_)
                clear hK KK hHeld
                try simp only [Act.put, List.setIfInBounds_toArray, List.set_cons_zero, List.set_cons_succ]
                refine wpAnyH_done (by kernel_rfl) ?_ _
                have HE := town_end D T B ltw lo lw ho HL.out hxl hxz hat5 T6 t6 o7 b7 ho8 hg8 hat8
                obtain ⟨W9, hW9⟩ : ∃ W9, w8.setCell ⟨tw, 4, none⟩ (.slice (some ⟨g8, 0, none⟩) (L + 1) c8) = W9 := ⟨_, rfl⟩
                rw [hW9] at HE
                try rw [hW9]
                clear hW9 z4 zf8 X8 ho8 hg8 hat8 hlt8 rw7 u4 u4a T7 o7 b7 T6 t6 hW6 y4d ho5 hg5 hat5 hlt5 T D
                go_wp2_with fail
                go_roundw
                case rel => exact ⟨b + 1, by omega, by simp, HE⟩
                case measure => simp [intOf]; omega
              · go_simp
                refine hK.out _ _ trivial (fun hHeld => ?_)
                clear hK KK hHeld
                try simp only [Act.put, List.setIfInBounds_toArray, List.set_cons_zero, List.set_cons_succ]
                refine wpAnyH_ready (rs := [4]) (by kernel_rfl) (by simp) ?_
                refine AllReadyH.cons (o := ⟨some 85, .load 33 (.tmp 84), 33, "free.go:45", #[⟨3, .data⟩], none⟩) rfl (fun KK hK => ?_) (AllReadyH.nil)
                go_simp
                refine hK.out _ _ trivial (fun hHeld => ?_)
                clear hK KK hHeld
                try simp only [Act.put, List.setIfInBounds_toArray, List.set_cons_zero, List.set_cons_succ]
                refine wpAnyH_ready (rs := [7]) (by kernel_rfl) (by simp) ?_
                refine AllReadyH.cons (o := ⟨some 88, .call ⟨.builtin .append, #[.tmp 85, .tmp 87], #[33, 33]⟩, 33, "free.go:45", #[⟨4, .data⟩, ⟨6, .data⟩, ⟨5, .chain⟩], none⟩) rfl (fun KK hK => ?_) (AllReadyH.nil)
                have rw7 : w7.ownsRow 0 56 1 wv L (xs.map It.val) := by
                  have := T7.x.row
                  rwa [hxl] at this
                refine step_append_lies _ rfl _ _ 33 rfl 0 56 i1 (.slice none 0 0) 1 24 Tryz.underlying33 ki kz0 kz1 kz2 rfl (by decide) wv L _ rfl (rw7.alloc _) ⟨w7.heap.size, 0, none⟩ 1 1 [.slice (some ⟨g7, 0, none⟩) 512 c7] rfl rfl (cell_one7 _ _ _) (by intro u hu; simp at hu; subst hu; rfl) (by decide) (by unfold maxLen; omega) (by omega) (by omega) _ rfl ?_
                intro g8 c8 w8 ho8 hg8 hat8 hlt8
                have X8 := T7.grow2 hg8
                have z4 : w8.cell? ⟨tw, 4, none⟩ = some wv := by simp [World.cell?, X8]
                have zf8 : w8.frozen? ⟨tw, 4, none⟩ = false := by simp [World.frozen?, X8]
                refine hK.out _ _ trivial (fun hHeld => ?_)
                clear hK KK hHeld
                try simp only [Act.put, List.setIfInBounds_toArray, List.set_cons_zero, List.set_cons_succ]
                refine wpAnyH_take (i := 8) (oi := ⟨some 89, .nilCheck (.tmp 81), 0, "free.go:45", #[⟨0, .data⟩, ⟨0, .phase⟩, ⟨1, .phase⟩, ⟨2, .phase⟩, ⟨3, .phase⟩, ⟨4, .phase⟩, ⟨5, .phase⟩, ⟨6, .phase⟩, ⟨7, .phase⟩], none⟩) (v := (.pointer (some ⟨tw, 0, none⟩))) rfl (by kernel_rfl) (by kernel_rfl) (by kernel_rfl) (fun _ _ _ h => h) (Or.inl ⟨by rfl, fun _ _ => by rfl⟩) trivial ?_
                simp only [Act.put, List.setIfInBounds_toArray, List.set_cons_zero, List.set_cons_succ]
                refine wpAnyH_take (i := 9) (oi := ⟨some 90, .fieldAddr 42 (.tmp 89) 4, 0, "free.go:45", #[⟨8, .data⟩, ⟨0, .phase⟩, ⟨1, .phase⟩, ⟨2, .phase⟩, ⟨3, .phase⟩, ⟨4, .phase⟩, ⟨5, .phase⟩, ⟨6, .phase⟩, ⟨7, .phase⟩], none⟩) (v := (.pointer (some ⟨tw, 4, none⟩))) rfl (by kernel_rfl) (by kernel_rfl) (by kernel_rfl) (fun _ _ _ h => h) (Or.inl ⟨by rfl, fun _ _ => by rfl⟩) trivial ?_
                simp only [Act.put, List.setIfInBounds_toArray, List.set_cons_zero, List.set_cons_succ]
                refine wpAnyH_ready (rs := [10]) (by kernel_rfl) (by simp) ?_
                refine AllReadyH.cons (o := ⟨none, .store 33 (.tmp 90) (.tmp 88), 0, "free.go:45", #[⟨9, .data⟩, ⟨7, .data⟩, ⟨7, .chain⟩, ⟨0, .phase⟩, ⟨1, .phase⟩, ⟨2, .phase⟩, ⟨3, .phase⟩, ⟨4, .phase⟩, ⟨5, .phase⟩, ⟨6, .phase⟩, ⟨7, .phase⟩], none⟩) rfl (fun KK hK => ?_) (AllReadyH.nil)
                go_simp
                refine hK.out _ _ trivial (fun hHeld => ?_)
                clear hK KK hHeld
                try simp only [Act.put, List.setIfInBounds_toArray, List.set_cons_zero, List.set_cons_succ]
                refine wpAnyH_done (by kernel_rfl) ?_ _
                have HE := town_end D T B ltw lo lw ho HL.out hxl hxz hat5 T6 t6 o7 b7 ho8 hg8 hat8
                obtain ⟨W9, hW9⟩ : ∃ W9, w8.setCell ⟨tw, 4, none⟩ (.slice (some ⟨g8, 0, none⟩) (L + 1) c8) = W9 := ⟨_, rfl⟩
                rw [hW9] at HE
                try rw [hW9]
                clear hW9 z4 zf8 X8 ho8 hg8 hat8 hlt8 rw7 u4 u4a T7 o7 b7 T6 t6 hW6 y4d ho5 hg5 hat5 hlt5 T D
                go_wp2_with fail
                go_roundw
                case rel => exact ⟨b + 1, by omega, by simp, HE⟩
                case measure => simp [intOf]; omega
          · have h32 : 32 ≤ b := by
              simp [outB7] at ho; omega
            have hb2i : ¬ (b : Int) < 2 := by omega
            have h32i : (32 : Int) ≤ b := by omega
            go_wp2_with (first
              | (at_builtin; refine wpList_append_lies _ rfl _ _ 40 rfl 0 3 i0 (.int .i64 0) 1 8 Tryz.underlying40 hi hz0 hz1 hz2 rfl (by decide) ov L _ rfl (r3.alloc _) ⟨w4.heap.size, 0, none⟩ 1 1 [.int .i64 (b : Nat)] rfl rfl (cell_one7 _ _ _) (by intro u hu; simp at hu; subst hu; rfl) (by decide) (by unfold maxLen; omega) (by omega) (by omega) _ rfl ?_; intro g5 c5 w5 ho5 hg5 hat5 hlt5; have T5 := T.grow1 tl r3 hg5; have z3 : w5.cell? ⟨tw, 3, none⟩ = some ov := by { simp [World.cell?, T5.box] }; have zf : w5.frozen? ⟨tw, 3, none⟩ = false := by { simp [World.frozen?, T5.box] }))
            have hN6 := T.out HL.out D.lt ho5 hg5 hat5
            obtain ⟨W6, hW6⟩ : ∃ W6, w5.setCell ⟨tw, 3, none⟩ (.slice (some ⟨g5, 0, none⟩) (L + 1) c5) = W6 := ⟨_, rfl⟩
            rw [hW6] at hN6
            try rw [hW6]
            obtain ⟨T6, t6⟩ := hN6
            have y4d : W6.drew.cell? ⟨tw, 4, none⟩ = some wv := by
              have : W6.drew.heap[tw]? = _ := T6.box
              simp [World.cell?, this]
            clear z3 zf T5 y3 y4
            refine wp_region_held_drew (S := fun _ => True) (by kernel_rfl) trivial (fun hHeld => ?_)
            clear hHeld
            refine wpAnyH_take (i := 0) (oi := ⟨some 81, .move (.tmp 8), 25, "free.go:45", #[], none⟩) (v := (.pointer (some ⟨tw, 0, none⟩))) rfl (by kernel_rfl) (by kernel_rfl) (by kernel_rfl) (fun _ _ _ h => h) (Or.inl ⟨by rfl, fun _ _ => by rfl⟩) trivial ?_
            simp only [Act.put, List.setIfInBounds_toArray, List.set_cons_zero, List.set_cons_succ]
            refine wpAnyH_take (i := 1) (oi := ⟨some 82, .move (.tmp 8), 25, "free.go:45", #[], none⟩) (v := (.pointer (some ⟨tw, 0, none⟩))) rfl (by kernel_rfl) (by kernel_rfl) (by kernel_rfl) (fun _ _ _ h => h) (Or.inl ⟨by rfl, fun _ _ => by rfl⟩) trivial ?_
            simp only [Act.put, List.setIfInBounds_toArray, List.set_cons_zero, List.set_cons_succ]
            refine wpAnyH_take (i := 2) (oi := ⟨some 83, .nilCheck (.tmp 82), 0, "free.go:45", #[⟨1, .data⟩], none⟩) (v := (.pointer (some ⟨tw, 0, none⟩))) rfl (by kernel_rfl) (by kernel_rfl) (by kernel_rfl) (fun _ _ _ h => h) (Or.inl ⟨by rfl, fun _ _ => by rfl⟩) trivial ?_
            simp only [Act.put, List.setIfInBounds_toArray, List.set_cons_zero, List.set_cons_succ]
            refine wpAnyH_take (i := 3) (oi := ⟨some 84, .fieldAddr 42 (.tmp 83) 4, 0, "free.go:45", #[⟨2, .data⟩], none⟩) (v := (.pointer (some ⟨tw, 4, none⟩))) rfl (by kernel_rfl) (by kernel_rfl) (by kernel_rfl) (fun _ _ _ h => h) (Or.inl ⟨by rfl, fun _ _ => by rfl⟩) trivial ?_
            simp only [Act.put, List.setIfInBounds_toArray, List.set_cons_zero, List.set_cons_succ]
            refine wpAnyH_ready (rs := [4, 5]) (by kernel_rfl) (by simp) ?_
            refine AllReadyH.cons (o := ⟨some 85, .load 33 (.tmp 84), 33, "free.go:45", #[⟨3, .data⟩], none⟩) rfl (fun KK hK => ?_) (AllReadyH.cons (o := ⟨some 86, .call ⟨.value (.func 28), #[.const (.slice none 0 0)], #[56]⟩, 56, "free.go:45", #[], none⟩) rfl (fun KK hK => ?_) (AllReadyH.nil))
            · go_simp
              refine hK.out _ _ trivial (fun hHeld => ?_)
              clear hK KK hHeld
              try simp only [Act.put, List.setIfInBounds_toArray, List.set_cons_zero, List.set_cons_succ]
              refine wpAnyH_ready (rs := [5]) (by kernel_rfl) (by simp) ?_
              refine AllReadyH.cons (o := ⟨some 86, .call ⟨.value (.func 28), #[.const (.slice none 0 0)], #[56]⟩, 56, "free.go:45", #[], none⟩) rfl (fun KK hK => ?_) (AllReadyH.nil)
              go_simp
              refine (block7 none 0 0 [] W6.drew (by omega) (Lies.nil _)).mono ?_
              rintro e w7 ⟨g7, c7, rfl, o7, b7⟩
              replace b7 := Below.fromDrew b7
              have T7 := T6.kp (Kp.below b7)
              have u4 : w7.cell? ⟨tw, 4, none⟩ = some wv := by simp [World.cell?, T7.box]
              have u4a : ∀ o, (w7.alloc o).cell? ⟨tw, 4, none⟩ = some wv := fun o => by
                have := (Below.heap_alloc w7 o tw (heap_lt T7.box)).trans T7.box
                simp [World.cell?, this]
              go_wp2_with fail
              refine hK.out _ _ trivial (fun hHeld => ?_)
              clear hK KK hHeld
              try simp only [Act.put, List.setIfInBounds_toArray, List.set_cons_zero, List.set_cons_succ]
              refine wpAnyH_ready (rs := [6]) (by kernel_rfl) (by simp) ?_
              refine AllReadyH.cons (o := ⟨some 87, .buildSlice 33 1 #[(0, .tmp 86)], 33, "free.go:45", #[⟨5, .data⟩], none⟩) rfl (fun KK hK => ?_) (AllReadyH.nil)
              go_simp
              refine hK.out _ _ trivial (fun hHeld => ?_)
              clear hK KK hHeld
              try simp only [Act.put, List.setIfInBounds_toArray, List.set_cons_zero, List.set_cons_succ]
              refine wpAnyH_ready (rs := [7]) (by kernel_rfl) (by simp) ?_
              refine AllReadyH.cons (o := ⟨some 88, .call ⟨.builtin .append, #[.tmp 85, .tmp 87], #[33, 33]⟩, 33, "free.go:45", #[⟨4, .data⟩, ⟨6, .data⟩, ⟨5, .chain⟩], none⟩) rfl (fun KK hK => ?_) (AllReadyH.nil)
              have rw7 : w7.ownsRow 0 56 1 wv L (xs.map It.val) := by
                have := T7.x.row
                rwa [hxl] at this
              refine step_append_lies _ rfl _ _ 33 rfl 0 56 i1 (.slice none 0 0) 1 24 Tryz.underlying33 ki kz0 kz1 kz2 rfl (by decide) wv L _ rfl (rw7.alloc _) ⟨w7.heap.size, 0, none⟩ 1 1 [.slice (some ⟨g7, 0, none⟩) 512 c7] rfl rfl (cell_one7 _ _ _) (by intro u hu; simp at hu; subst hu; rfl) (by decide) (by unfold maxLen; omega) (by omega) (by omega) _ rfl ?_
              intro g8 c8 w8 ho8 hg8 hat8 hlt8
              have X8 := T7.grow2 hg8
              have z4 : w8.cell? ⟨tw, 4, none⟩ = some wv := by simp [World.cell?, X8]
              have zf8 : w8.frozen? ⟨tw, 4, none⟩ = false := by simp [World.frozen?, X8]
              refine hK.out _ _ trivial (fun hHeld => ?_)
              clear hK KK hHeld
              try simp only [Act.put, List.setIfInBounds_toArray, List.set_cons_zero, List.set_cons_succ]
              refine wpAnyH_take (i := 8) (oi := ⟨some 89, .nilCheck (.tmp 81), 0, "free.go:45", #[⟨0, .data⟩, ⟨0, .phase⟩, ⟨1, .phase⟩, ⟨2, .phase⟩, ⟨3, .phase⟩, ⟨4, .phase⟩, ⟨5, .phase⟩, ⟨6, .phase⟩, ⟨7, .phase⟩], none⟩) (v := (.pointer (some ⟨tw, 0, none⟩))) rfl (by kernel_rfl) (by kernel_rfl) (by kernel_rfl) (fun _ _ _ h => h) (Or.inl ⟨by rfl, fun _ _ => by rfl⟩) trivial ?_
              simp only [Act.put, List.setIfInBounds_toArray, List.set_cons_zero, List.set_cons_succ]
              refine wpAnyH_take (i := 9) (oi := ⟨some 90, .fieldAddr 42 (.tmp 89) 4, 0, "free.go:45", #[⟨8, .data⟩, ⟨0, .phase⟩, ⟨1, .phase⟩, ⟨2, .phase⟩, ⟨3, .phase⟩, ⟨4, .phase⟩, ⟨5, .phase⟩, ⟨6, .phase⟩, ⟨7, .phase⟩], none⟩) (v := (.pointer (some ⟨tw, 4, none⟩))) rfl (by kernel_rfl) (by kernel_rfl) (by kernel_rfl) (fun _ _ _ h => h) (Or.inl ⟨by rfl, fun _ _ => by rfl⟩) trivial ?_
              simp only [Act.put, List.setIfInBounds_toArray, List.set_cons_zero, List.set_cons_succ]
              refine wpAnyH_ready (rs := [10]) (by kernel_rfl) (by simp) ?_
              refine AllReadyH.cons (o := ⟨none, .store 33 (.tmp 90) (.tmp 88), 0, "free.go:45", #[⟨9, .data⟩, ⟨7, .data⟩, ⟨7, .chain⟩, ⟨0, .phase⟩, ⟨1, .phase⟩, ⟨2, .phase⟩, ⟨3, .phase⟩, ⟨4, .phase⟩, ⟨5, .phase⟩, ⟨6, .phase⟩, ⟨7, .phase⟩], none⟩) rfl (fun KK hK => ?_) (AllReadyH.nil)
              go_simp
              refine hK.out _ _ trivial (fun hHeld => ?_)
              clear hK KK hHeld
              try simp only [Act.put, List.setIfInBounds_toArray, List.set_cons_zero, List.set_cons_succ]
              refine wpAnyH_done (by kernel_rfl) ?_ _
              have HE := town_end D T B ltw lo lw ho HL.out hxl hxz hat5 T6 t6 o7 b7 ho8 hg8 hat8
              obtain ⟨W9, hW9⟩ : ∃ W9, w8.setCell ⟨tw, 4, none⟩ (.slice (some ⟨g8, 0, none⟩) (L + 1) c8) = W9 := ⟨_, rfl⟩
              rw [hW9] at HE
              try rw [hW9]
              clear hW9 z4 zf8 X8 ho8 hg8 hat8 hlt8 rw7 u4 u4a T7 o7 b7 T6 t6 hW6 y4d ho5 hg5 hat5 hlt5 T D
              go_wp2_with fail
              go_roundw
              case rel => exact ⟨b + 1, by omega, by simp, HE⟩
              case measure => simp [intOf]; omega
            · go_simp
              refine (block7 none 0 0 [] W6.drew (by omega) (Lies.nil _)).mono ?_
              rintro e w7 ⟨g7, c7, rfl, o7, b7⟩
              replace b7 := Below.fromDrew b7
              have T7 := T6.kp (Kp.below b7)
              have u4 : w7.cell? ⟨tw, 4, none⟩ = some wv := by simp [World.cell?, T7.box]
              have u4a : ∀ o, (w7.alloc o).cell? ⟨tw, 4, none⟩ = some wv := fun o => by
                have := (Below.heap_alloc w7 o tw (heap_lt T7.box)).trans T7.box
                simp [World.cell?, this]
              go_wp2_with fail
              refine hK.out _ _ trivial (fun hHeld => ?_)
              clear hK KK hHeld
              try simp only [Act.put, List.setIfInBounds_toArray, List.set_cons_zero, List.set_cons_succ]
              refine wpAnyH_ready (rs := [4, 6]) (by kernel_rfl) (by simp) ?_
              refine AllReadyH.cons (o := ⟨some 85, .load 33 (.tmp 84), 33, "free.go:45", #[⟨3, .data⟩], none⟩) rfl (fun KK hK => ?_) (AllReadyH.cons (o := ⟨some 87, .buildSlice 33 1 #[(0, .tmp 86)], 33, "free.go:45", #[⟨5, .data⟩], none⟩) rfl (fun KK hK => ?_) (AllReadyH.nil))
              · go_simp
                refine hK.out _ _ trivial (fun hHeld => ?_)
                clear hK KK hHeld
                try simp only [Act.put, List.setIfInBounds_toArray, List.set_cons_zero, List.set_cons_succ]
                refine wpAnyH_ready (rs := [6]) (by kernel_rfl) (by simp) ?_
                refine AllReadyH.cons (o := ⟨some 87, .buildSlice 33 1 #[(0, .tmp 86)], 33, "free.go:45", #[⟨5, .data⟩], none⟩) rfl (fun KK hK => ?_) (AllReadyH.nil)
                go_simp
                refine hK.out _ _ trivial (fun hHeld => ?_)
                clear hK KK hHeld
                try simp only [Act.put, List.setIfInBounds_toArray, List.set_cons_zero, List.set_cons_succ]
                refine wpAnyH_ready (rs := [7]) (by kernel_rfl) (by simp) ?_
                refine AllReadyH.cons (o := ⟨some 88, .call ⟨.builtin .append, #[.tmp 85, .tmp 87], #[33, 33]⟩, 33, "free.go:45", #[⟨4, .data⟩, ⟨6, .data⟩, ⟨5, .chain⟩], none⟩) rfl (fun KK hK => ?_) (AllReadyH.nil)
                have rw7 : w7.ownsRow 0 56 1 wv L (xs.map It.val) := by
                  have := T7.x.row
                  rwa [hxl] at this
                refine step_append_lies _ rfl _ _ 33 rfl 0 56 i1 (.slice none 0 0) 1 24 Tryz.underlying33 ki kz0 kz1 kz2 rfl (by decide) wv L _ rfl (rw7.alloc _) ⟨w7.heap.size, 0, none⟩ 1 1 [.slice (some ⟨g7, 0, none⟩) 512 c7] rfl rfl (cell_one7 _ _ _) (by intro u hu; simp at hu; subst hu; rfl) (by decide) (by unfold maxLen; omega) (by omega) (by omega) _ rfl ?_
                intro g8 c8 w8 ho8 hg8 hat8 hlt8
                have X8 := T7.grow2 hg8
                have z4 : w8.cell? ⟨tw, 4, none⟩ = some wv := by simp [World.cell?, X8]
                have zf8 : w8.frozen? ⟨tw, 4, none⟩ = false := by simp [World.frozen?, X8]
                refine hK.out _ _ trivial (fun hHeld => ?_)
                clear hK KK hHeld
                try simp only [Act.put, List.setIfInBounds_toArray, List.set_cons_zero, List.set_cons_succ]
                refine wpAnyH_take (i := 8) (oi := ⟨some 89, .nilCheck (.tmp 81), 0, "free.go:45", #[⟨0, .data⟩, ⟨0, .phase⟩, ⟨1, .phase⟩, ⟨2, .phase⟩, ⟨3, .phase⟩, ⟨4, .phase⟩, ⟨5, .phase⟩, ⟨6, .phase⟩, ⟨7, .phase⟩], none⟩) (v := (.pointer (some ⟨tw, 0, none⟩))) rfl (by kernel_rfl) (by kernel_rfl) (by kernel_rfl) (fun _ _ _ h => h) (Or.inl ⟨by rfl, fun _ _ => by rfl⟩) trivial ?_
                simp only [Act.put, List.setIfInBounds_toArray, List.set_cons_zero, List.set_cons_succ]
                refine wpAnyH_take (i := 9) (oi := ⟨some 90, .fieldAddr 42 (.tmp 89) 4, 0, "free.go:45", #[⟨8, .data⟩, ⟨0, .phase⟩, ⟨1, .phase⟩, ⟨2, .phase⟩, ⟨3, .phase⟩, ⟨4, .phase⟩, ⟨5, .phase⟩, ⟨6, .phase⟩, ⟨7, .phase⟩], none⟩) (v := (.pointer (some ⟨tw, 4, none⟩))) rfl (by kernel_rfl) (by kernel_rfl) (by kernel_rfl) (fun _ _ _ h => h) (Or.inl ⟨by rfl, fun _ _ => by rfl⟩) trivial ?_
                simp only [Act.put, List.setIfInBounds_toArray, List.set_cons_zero, List.set_cons_succ]
                refine wpAnyH_ready (rs := [10]) (by kernel_rfl) (by simp) ?_
                refine AllReadyH.cons (o := ⟨none, .store 33 (.tmp 90) (.tmp 88), 0, "free.go:45", #[⟨9, .data⟩, ⟨7, .data⟩, ⟨7, .chain⟩, ⟨0, .phase⟩, ⟨1, .phase⟩, ⟨2, .phase⟩, ⟨3, .phase⟩, ⟨4, .phase⟩, ⟨5, .phase⟩, ⟨6, .phase⟩, ⟨7, .phase⟩], none⟩) rfl (fun KK hK => ?_) (AllReadyH.nil)
                go_simp
                refine hK.out _ _ trivial (fun hHeld => ?_)
                clear hK KK hHeld
                try simp only [Act.put, List.setIfInBounds_toArray, List.set_cons_zero, List.set_cons_succ]
                refine wpAnyH_done (by kernel_rfl) ?_ _
                have HE := town_end D T B ltw lo lw ho HL.out hxl hxz hat5 T6 t6 o7 b7 ho8 hg8 hat8
                obtain ⟨W9, hW9⟩ : ∃ W9, w8.setCell ⟨tw, 4, none⟩ (.slice (some ⟨g8, 0, none⟩) (L + 1) c8) = W9 := ⟨_, rfl⟩
                rw [hW9] at HE
                try rw [hW9]
                clear hW9 z4 zf8 X8 ho8 hg8 hat8 hlt8 rw7 u4 u4a T7 o7 b7 T6 t6 hW6 y4d ho5 hg5 hat5 hlt5 T D
                go_wp2_with fail
                go_roundw
                case rel => exact ⟨b + 1, by omega, by simp, HE⟩
                case measure => simp [intOf]; omega
              · go_simp
                refine hK.out _ _ trivial (fun hHeld => ?_)
                clear hK KK hHeld
                try simp only [Act.put, List.setIfInBounds_toArray, List.set_cons_zero, List.set_cons_succ]
                refine wpAnyH_ready (rs := [4]) (by kernel_rfl) (by simp) ?_
                refine AllReadyH.cons (o := ⟨some 85, .load 33 (.tmp 84), 33, "free.go:45", #[⟨3, .data⟩], none⟩) rfl (fun KK hK => ?_) (AllReadyH.nil)
                go_simp
                refine hK.out _ _ trivial (fun hHeld => ?_)
                clear hK KK hHeld
                try simp only [Act.put, List.setIfInBounds_toArray, List.set_cons_zero, List.set_cons_succ]
                refine wpAnyH_ready (rs := [7]) (by kernel_rfl) (by simp) ?_
                refine AllReadyH.cons (o := ⟨some 88, .call ⟨.builtin .append, #[.tmp 85, .tmp 87], #[33, 33]⟩, 33, "free.go:45", #[⟨4, .data⟩, ⟨6, .data⟩, ⟨5, .chain⟩], none⟩) rfl (fun KK hK => ?_) (AllReadyH.nil)
                have rw7 : w7.ownsRow 0 56 1 wv L (xs.map It.val) := by
                  have := T7.x.row
                  rwa [hxl] at this
                refine step_append_lies _ rfl _ _ 33 rfl 0 56 i1 (.slice none 0 0) 1 24 Tryz.underlying33 ki kz0 kz1 kz2 rfl (by decide) wv L _ rfl (rw7.alloc _) ⟨w7.heap.size, 0, none⟩ 1 1 [.slice (some ⟨g7, 0, none⟩) 512 c7] rfl rfl (cell_one7 _ _ _) (by intro u hu; simp at hu; subst hu; rfl) (by decide) (by unfold maxLen; omega) (by omega) (by omega) _ rfl ?_
                intro g8 c8 w8 ho8 hg8 hat8 hlt8
                have X8 := T7.grow2 hg8
                have z4 : w8.cell? ⟨tw, 4, none⟩ = some wv := by simp [World.cell?, X8]
                have zf8 : w8.frozen? ⟨tw, 4, none⟩ = false := by simp [World.frozen?, X8]
                refine hK.out _ _ trivial (fun hHeld => ?_)
                clear hK KK hHeld
                try simp only [Act.put, List.setIfInBounds_toArray, List.set_cons_zero, List.set_cons_succ]
                refine wpAnyH_take (i := 8) (oi := ⟨some 89, .nilCheck (.tmp 81), 0, "free.go:45", #[⟨0, .data⟩, ⟨0, .phase⟩, ⟨1, .phase⟩, ⟨2, .phase⟩, ⟨3, .phase⟩, ⟨4, .phase⟩, ⟨5, .phase⟩, ⟨6, .phase⟩, ⟨7, .phase⟩], none⟩) (v := (.pointer (some ⟨tw, 0, none⟩))) rfl (by kernel_rfl) (by kernel_rfl) (by kernel_rfl) (fun _ _ _ h => h) (Or.inl ⟨by rfl, fun _ _ => by rfl⟩) trivial ?_
                simp only [Act.put, List.setIfInBounds_toArray, List.set_cons_zero, List.set_cons_succ]
                refine wpAnyH_take (i := 9) (oi := ⟨some 90, .fieldAddr 42 (.tmp 89) 4, 0, "free.go:45", #[⟨8, .data⟩, ⟨0, .phase⟩, ⟨1, .phase⟩, ⟨2, .phase⟩, ⟨3, .phase⟩, ⟨4, .phase⟩, ⟨5, .phase⟩, ⟨6, .phase⟩, ⟨7, .phase⟩], none⟩) (v := (.pointer (some ⟨tw, 4, none⟩))) rfl (by kernel_rfl) (by kernel_rfl) (by kernel_rfl) (fun _ _ _ h => h) (Or.inl ⟨by rfl, fun _ _ => by rfl⟩) trivial ?_
                simp only [Act.put, List.setIfInBounds_toArray, List.set_cons_zero, List.set_cons_succ]
                refine wpAnyH_ready (rs := [10]) (by kernel_rfl) (by simp) ?_
                refine AllReadyH.cons (o := ⟨none, .store 33 (.tmp 90) (.tmp 88), 0, "free.go:45", #[⟨9, .data⟩, ⟨7, .data⟩, ⟨7, .chain⟩, ⟨0, .phase⟩, ⟨1, .phase⟩, ⟨2, .phase⟩, ⟨3, .phase⟩, ⟨4, .phase⟩, ⟨5, .phase⟩, ⟨6, .phase⟩, ⟨7, .phase⟩], none⟩) rfl (fun KK hK => ?_) (AllReadyH.nil)
                go_simp
                refine hK.out _ _ trivial (fun hHeld => ?_)
                clear hK KK hHeld
                try simp only [Act.put, List.setIfInBounds_toArray, List.set_cons_zero, List.set_cons_succ]
                refine wpAnyH_done (by kernel_rfl) ?_ _
                have HE := town_end D T B ltw lo lw ho HL.out hxl hxz hat5 T6 t6 o7 b7 ho8 hg8 hat8
                obtain ⟨W9, hW9⟩ : ∃ W9, w8.setCell ⟨tw, 4, none⟩ (.slice (some ⟨g8, 0, none⟩) (L + 1) c8) = W9 := ⟨_, rfl⟩
                rw [hW9] at HE
                try rw [hW9]
                clear hW9 z4 zf8 X8 ho8 hg8 hat8 hlt8 rw7 u4 u4a T7 o7 b7 T6 t6 hW6 y4d ho5 hg5 hat5 hlt5 T D
                go_wp2_with fail
                go_roundw
                case rel => exact ⟨b + 1, by omega, by simp, HE⟩
                case measure => simp [intOf]; omega
        · have ho2 : ¬ b < 2 ∧ b < 32 := by
            simp [outB7] at ho; omega
          have hb2i : ¬ (b : Int) < 2 := by omega
          have h32i : ¬ (32 : Int) ≤ b := by omega
          have HE : TR w G tw db (b + 1) w4 := by
            have e : outs (b + 1) = outs b := by rw [outs_succ]; simp [ho]
            exact ⟨ov, wv, xs, D, by rw [e]; exact T, by rw [e]; exact hxl, hxz, lo, lw, B⟩
          clear D T hxl
          go_wp2_with fail
          go_roundw
          case rel => exact ⟨b + 1, by omega, by simp, HE⟩
          case measure => simp [intOf]; omega
      · have hb40 : b = 40 := by omega
        subst hb40
        have HT : Hid (Dev w4 db 0 F40 40 30 G ∧ Tn w4 G tw db ov wv (outs 40) xs ∧ xs.length = 10) := ⟨D, T, by rw [hxl, outs_40]; rfl⟩
        clear D T hxl
        go_wp2_with fail
        refine (num7 0 w4).mono ?_
        rintro e w5 ⟨rfl, rfl⟩
        go_wp2_with fail
        obtain ⟨Dz, Tz, lz⟩ := HT.out
        refine bodyPost_ret (results_tmp2 rfl _ _ _) rfl ?_
        exact ⟨tw, db, 30, G, ov, wv, xs, rfl, Dz, by omega, fun i hi => (f3 i hi).1, Tz, lz, hxz, ltw, lo, B⟩
  by_cases c1 : 200 < n
  · as_aux_lemma =>
    go_enter Tryz.func10, Tryz.ntmps10
    go_wp2_with fail
    refine (new_good 40 w (by omega) (by omega)).mono ?_
    rintro e w1 ⟨db, rfl, D1, b1⟩
    replace D1 : Dev w1 db 0 S40 40 0 (grow (fun _ => False) w w1) := D1
    obtain ⟨W2, hW2⟩ : ∃ W, w1.alloc (.cells #[.pointer (some ⟨db, 0, none⟩), .int .i64 2, .int .i64 30, .slice none 0 0, .slice none 0 0] 42) = W := ⟨_, rfl⟩
    have b2 : Below w1.heap.size w1 W2 := by rw [← hW2]; exact (Below.refl _ w1).alloc (Nat.le_refl _) _
    have s2 : W2.heap.size = w1.heap.size + 1 := by rw [← hW2]; simp
    have X2 : W2.heap[w1.heap.size]? = some (.cells #[.pointer (some ⟨db, 0, none⟩), .int .i64 2, .int .i64 30, .slice none 0 0, .slice none 0 0] 42) := by rw [← hW2]; exact (MapKept.heap_alloc w1 _).1
    have D2 := D1.below b2
    obtain ⟨tw, htw⟩ : ∃ tw, w1.heap.size = tw := ⟨_, rfl⟩
    rw [htw] at X2
    have q0 : W2.cell? ⟨tw, 0, none⟩ = some (.pointer (some ⟨db, 0, none⟩)) := by simp [World.cell?, X2]
    go_wp2_with fail
    try rw [hW2]
    try rw [htw]
    refine (format40 D2 (by omega)).mono ?_
    rintro e w3 ⟨rfl, D3, t3⟩
    have sb1 := b1.size
    have f1 : ∀ i, grow (fun _ => False) w w1 i → w.heap.size ≤ i ∧ i < w1.heap.size := fun i hi => hi.elim False.elim (fun r => r)
    have X3 := (t3.block tw (heap_lt X2) (fun r => by have := f1 tw r; omega)).trans X2
    have b02 : Below w.heap.size w W2 := b1.trans (b2.mono b1.size)
    have B3 : Below w.heap.size w w3 := b02.trans (t3.below (fun i r => (f1 i r).1) b02.size)
    have f3 : ∀ i, grow (grow (fun _ => False) w w1) W2 w3 i → w.heap.size ≤ i ∧ i ≠ tw := fun i hi => hi.elim (fun r => ⟨(f1 i r).1, by have := f1 i r; omega⟩) (fun r => ⟨by omega, by omega⟩)
    generalize grow (grow (fun _ => False) w w1) W2 w3 = G at D3 f3
    have hGl := D3.lt
    have T3 : Tn w3 G tw db (.slice none 0 0) (.slice none 0 0) (outs 0) [] := ⟨X3, ⟨⟨rfl, Or.inl ⟨rfl, rfl⟩⟩, (fun b hb => by cases hb)⟩, ⟨⟨rfl, Or.inl ⟨rfl, rfl⟩⟩, (fun b hb => by cases hb), (fun x hx => by cases hx)⟩, fun r => (f3 tw r).2 rfl⟩
    have ltw : w.heap.size ≤ tw := by omega
    clear D1 D2 t3 q0 X2 X3 hW2 f1
    go_wp2_with fail
    go_loopw [10] (fun i wr => ∃ (b : Nat), b ≤ 40 ∧ i = .int .i64 b ∧ TR w G tw db b wr) (fun i _ => 40 - (intOf i).toNat)
    case atStart => exact ⟨0, by omega, rfl, _, _, [], D3, T3, rfl, (fun x hx => by cases hx), (fun c hc => by cases hc), (fun c hc => by cases hc), B3⟩
    case round =>
      clear D3 T3 B3
      obtain ⟨b, hb, rfl, ov, wv, xs, D, T, hxl, hxz, lo, lw, B⟩ := hrel
      obtain ⟨w4, hw4⟩ : ∃ w4, w4 = wr := ⟨wr, rfl⟩
      subst hw4
      by_cases hlt : b < 40
      · have hbi : (b : Int) < 40 := by omega
        by_cases ho : outB7 b = true
        · have y3 : w4.cell? ⟨tw, 3, none⟩ = some ov := by simp [World.cell?, T.box]
          have y4 : w4.cell? ⟨tw, 4, none⟩ = some wv := by simp [World.cell?, T.box]
          have r3 := T.o.row
          have ol := outs_le b
          have s4 := B.size
          have tl := heap_lt T.box
          have hD4 := D.lt
          obtain ⟨L, hL⟩ : ∃ L, (outs b).length = L := ⟨_, rfl⟩
          have HL : Hid ((outs b).length = L) := hL
          rw [hL] at r3 ol hxl
          clear hL
          by_cases hb2 : b < 2
          · have hb2i : (b : Int) < 2 := by omega
            go_wp2_with (first
              | (at_builtin; refine wpList_append_lies _ rfl _ _ 40 rfl 0 3 i0 (.int .i64 0) 1 8 Tryz.underlying40 hi hz0 hz1 hz2 rfl (by decide) ov L _ rfl (r3.alloc _) ⟨w4.heap.size, 0, none⟩ 1 1 [.int .i64 (b : Nat)] rfl rfl (cell_one7 _ _ _) (by intro u hu; simp at hu; subst hu; rfl) (by decide) (by unfold maxLen; omega) (by omega) (by omega) _ rfl ?_; intro g5 c5 w5 ho5 hg5 hat5 hlt5; have T5 := T.grow1 tl r3 hg5; have z3 : w5.cell? ⟨tw, 3, none⟩ = some ov := by { simp [World.cell?, T5.box] }; have zf : w5.frozen? ⟨tw, 3, none⟩ = false := by { simp [World.frozen?, T5.box] }))
            have hN6 := T.out HL.out D.lt ho5 hg5 hat5
            obtain ⟨W6, hW6⟩ : ∃ W6, w5.setCell ⟨tw, 3, none⟩ (.slice (some ⟨g5, 0, none⟩) (L + 1) c5) = W6 := ⟨_, rfl⟩
            rw [hW6] at hN6
            try rw [hW6]
            obtain ⟨T6, t6⟩ := hN6
            have y4d : W6.drew.cell? ⟨tw, 4, none⟩ = some wv := by
              have : W6.drew.heap[tw]? = _ := T6.box
              simp [World.cell?, this]
            clear z3 zf T5 y3 y4
            refine wp_region_held_drew (S := fun _ => True) (by kernel_rfl) trivial (fun hHeld => ?_)
            clear hHeld
            refine wpAnyH_take (i := 0) (oi := ⟨some 81, .move (.tmp 8), 25, "free.go:45", #[], none⟩) (v := (.pointer (some ⟨tw, 0, none⟩))) rfl (by kernel_rfl) (by kernel_rfl) (by kernel_rfl) (fun _ _ _ h => h) (Or.inl ⟨by rfl, fun _ _ => by rfl⟩) trivial ?_
            simp only [Act.put, List.setIfInBounds_toArray, List.set_cons_zero, List.set_cons_succ]
            refine wpAnyH_take (i := 1) (oi := ⟨some 82, .move (.tmp 8), 25, "free.go:45", #[], none⟩) (v := (.pointer (some ⟨tw, 0, none⟩))) rfl (by kernel_rfl) (by kernel_rfl) (by kernel_rfl) (fun _ _ _ h => h) (Or.inl ⟨by rfl, fun _ _ => by rfl⟩) trivial ?_
            simp only [Act.put, List.setIfInBounds_toArray, List.set_cons_zero, List.set_cons_succ]
            refine wpAnyH_take (i := 2) (oi := ⟨some 83, .nilCheck (.tmp 82), 0, "free.go:45", #[⟨1, .data⟩], none⟩) (v := (.pointer (some ⟨tw, 0, none⟩))) rfl (by kernel_rfl) (by kernel_rfl) (by kernel_rfl) (fun _ _ _ h => h) (Or.inl ⟨by rfl, fun _ _ => by rfl⟩) trivial ?_
            simp only [Act.put, List.setIfInBounds_toArray, List.set_cons_zero, List.set_cons_succ]
            refine wpAnyH_take (i := 3) (oi := ⟨some 84, .fieldAddr 42 (.tmp 83) 4, 0, "free.go:45", #[⟨2, .data⟩], none⟩) (v := (.pointer (some ⟨tw, 4, none⟩))) rfl (by kernel_rfl) (by kernel_rfl) (by kernel_rfl) (fun _ _ _ h => h) (Or.inl ⟨by rfl, fun _ _ => by rfl⟩) trivial ?_
            simp only [Act.put, List.setIfInBounds_toArray, List.set_cons_zero, List.set_cons_succ]
            refine wpAnyH_ready (rs := [4, 5]) (by kernel_rfl) (by simp) ?_
            refine AllReadyH.cons (o := ⟨some 85, .load 33 (.tmp 84), 33, "free.go:45", #[⟨3, .data⟩], none⟩) rfl (fun KK hK => ?_) (AllReadyH.cons (o := ⟨some 86, .call ⟨.value (.func 28), #[.const (.slice none 0 0)], #[56]⟩, 56, "free.go:45", #[], none⟩) rfl (fun KK hK => ?_) (AllReadyH.nil))
            · go_simp
              refine hK.out _ _ trivial (fun hHeld => ?_)
              clear hK KK hHeld
              try simp only [Act.put, List.setIfInBounds_toArray, List.set_cons_zero, List.set_cons_succ]
              refine wpAnyH_ready (rs := [5]) (by kernel_rfl) (by simp) ?_
              refine AllReadyH.cons (o := ⟨some 86, .call ⟨.value (.func 28), #[.const (.slice none 0 0)], #[56]⟩, 56, "free.go:45", #[], none⟩) rfl (fun KK hK => ?_) (AllReadyH.nil)
              go_simp
              refine (block7 none 0 0 [] W6.drew (by omega) (Lies.nil _)).mono ?_
              rintro e w7 ⟨g7, c7, rfl, o7, b7⟩
              replace b7 := Below.fromDrew b7
              have T7 := T6.kp (Kp.below b7)
              have u4 : w7.cell? ⟨tw, 4, none⟩ = some wv := by simp [World.cell?, T7.box]
              have u4a : ∀ o, (w7.alloc o).cell? ⟨tw, 4, none⟩ = some wv := fun o => by
                have := (Below.heap_alloc w7 o tw (heap_lt T7.box)).trans T7.box
                simp [World.cell?, this]
              go_wp2_with fail
              refine hK.out _ _ trivial (fun hHeld => ?_)
              clear hK KK hHeld
              try simp only [Act.put, List.setIfInBounds_toArray, List.set_cons_zero, List.set_cons_succ]
              refine wpAnyH_ready (rs := [6]) (by kernel_rfl) (by simp) ?_
              refine AllReadyH.cons (o := ⟨some 87, .buildSlice 33 1 #[(0, .tmp 86)], 33, "free.go:45", #[⟨5, .data⟩], none⟩) rfl (fun KK hK => ?_) (AllReadyH.nil)
              go_simp
              refine hK.out _ _ trivial (fun hHeld => ?_)
              clear hK KK hHeld
              try simp only [Act.put, List.setIfInBounds_toArray, List.set_cons_zero, List.set_cons_succ]
              refine wpAnyH_ready (rs := [7]) (by kernel_rfl) (by simp) ?_
              refine AllReadyH.cons (o := ⟨some 88, .call ⟨.builtin .append, #[.tmp 85, .tmp 87], #[33, 33]⟩, 33, "free.go:45", #[⟨4, .data⟩, ⟨6, .data⟩, ⟨5, .chain⟩], none⟩) rfl (fun KK hK => ?_) (AllReadyH.nil)
              have rw7 : w7.ownsRow 0 56 1 wv L (xs.map It.val) := by
                have := T7.x.row
                rwa [hxl] at this
              refine step_append_lies _ rfl _ _ 33 rfl 0 56 i1 (.slice none 0 0) 1 24 Tryz.underlying33 ki kz0 kz1 kz2 rfl (by decide) wv L _ rfl (rw7.alloc _) ⟨w7.heap.size, 0, none⟩ 1 1 [.slice (some ⟨g7, 0, none⟩) 512 c7] rfl rfl (cell_one7 _ _ _) (by intro u hu; simp at hu; subst hu; rfl) (by decide) (by unfold maxLen; omega) (by omega) (by omega) _ rfl ?_
              intro g8 c8 w8 ho8 hg8 hat8 hlt8
              have X8 := T7.grow2 hg8
              have z4 : w8.cell? ⟨tw, 4, none⟩ = some wv := by simp [World.cell?, X8]
              have zf8 : w8.frozen? ⟨tw, 4, none⟩ = false := by simp [World.frozen?, X8]
              refine hK.out _ _ trivial (fun hHeld => ?_)
              clear hK KK hHeld
              try simp only [Act.put, List.setIfInBounds_toArray, List.set_cons_zero, List.set_cons_succ]
              refine wpAnyH_take (i := 8) (oi := ⟨some 89, .nilCheck (.tmp 81), 0, "free.go:45", #[⟨0, .data⟩, ⟨0, .phase⟩, ⟨1, .phase⟩, ⟨2, .phase⟩, ⟨3, .phase⟩, ⟨4, .phase⟩, ⟨5, .phase⟩, ⟨6, .phase⟩, ⟨7, .phase⟩], none⟩) (v := (.pointer (some ⟨tw, 0, none⟩))) rfl (by kernel_rfl) (by kernel_rfl) (by kernel_rfl) (fun _ _ _ h => h) (Or.inl ⟨by rfl, fun _ _ => by rfl⟩) trivial ?_
              simp only [Act.put, List.setIfInBounds_toArray, List.set_cons_zero, List.set_cons_succ]
              refine wpAnyH_take (i := 9) (oi := ⟨some 90, .fieldAddr 42 (.tmp 89) 4, 0, "free.go:45", #[⟨8, .data⟩, ⟨0, .phase⟩, ⟨1, .phase⟩, ⟨2, .phase⟩, ⟨3, .phase⟩, ⟨4, .phase⟩, ⟨5, .phase⟩, ⟨6, .phase⟩, ⟨7, .phase⟩], none⟩) (v := (.pointer (some ⟨tw, 4, none⟩))) rfl (by kernel_rfl) (by kernel_rfl) (by kernel_rfl) (fun _ _ _ h => h) (Or.inl ⟨by rfl, fun _ _ => by rfl⟩) trivial ?_
              simp only [Act.put, List.setIfInBounds_toArray, List.set_cons_zero, List.set_cons_succ]
              refine wpAnyH_ready (rs := [10]) (by kernel_rfl) (by simp) ?_
              refine AllReadyH.cons (o := ⟨none, .store 33 (.tmp 90) (.tmp 88), 0, "free.go:45", #[⟨9, .data⟩, ⟨7, .data⟩, ⟨7, .chain⟩, ⟨0, .phase⟩, ⟨1, .phase⟩, ⟨2, .phase⟩, ⟨3, .phase⟩, ⟨4, .phase⟩, ⟨5, .phase⟩, ⟨6, .phase⟩, ⟨7, .phase⟩], none⟩) rfl (fun KK hK => ?_) (AllReadyH.nil)
              go_simp
              refine hK.out _ _ trivial (fun hHeld => ?_)
              clear hK KK hHeld
              try simp only [Act.put, List.setIfInBounds_toArray, List.set_cons_zero, List.set_cons_succ]
              refine wpAnyH_done (by kernel_rfl) ?_ _
              have HE := town_end D T B ltw lo lw ho HL.out hxl hxz hat5 T6 t6 o7 b7 ho8 hg8 hat8
              obtain ⟨W9, hW9⟩ : ∃ W9, w8.setCell ⟨tw, 4, none⟩ (.slice (some ⟨g8, 0, none⟩) (L + 1) c8) = W9 := ⟨_, rfl⟩
              rw [hW9] at HE
              try rw [hW9]
              clear hW9 z4 zf8 X8 ho8 hg8 hat8 hlt8 rw7 u4 u4a T7 o7 b7 T6 t6 hW6 y4d ho5 hg5 hat5 hlt5 T D
              go_wp2_with fail
              go_roundw
              case rel => exact ⟨b + 1, by omega, by simp, HE⟩
              case measure => simp [intOf]; omega
            · go_simp
              refine (block7 none 0 0 [] W6.drew (by omega) (Lies.nil _)).mono ?_
              rintro e w7 ⟨g7, c7, rfl, o7, b7⟩
              replace b7 := Below.fromDrew b7
              have T7 := T6.kp (Kp.below b7)
              have u4 : w7.cell? ⟨tw, 4, none⟩ = some wv := by simp [World.cell?, T7.box]
              have u4a : ∀ o, (w7.alloc o).cell? ⟨tw, 4, none⟩ = some wv := fun o => by
                have := (Below.heap_alloc w7 o tw (heap_lt T7.box)).trans T7.box
                simp [World.cell?, this]
              go_wp2_with fail
              refine hK.out _ _ trivial (fun hHeld => ?_)
              clear hK KK hHeld
              try simp only [Act.put, List.setIfInBounds_toArray, List.set_cons_zero, List.set_cons_succ]
              refine wpAnyH_ready (rs := [4, 6]) (by kernel_rfl) (by simp) ?_
              refine AllReadyH.cons (o := ⟨some 85, .load 33 (.tmp 84), 33, "free.go:45", #[⟨3, .data⟩], none⟩) rfl (fun KK hK => ?_) (AllReadyH.cons (o := ⟨some 87, .buildSlice 33 1 #[(0, .tmp 86)], 33, "free.go:45", #[⟨5, .data⟩], none⟩) rfl (fun KK hK => ?_) (AllReadyH.nil))
              · go_simp
                refine hK.out _ _ trivial (fun hHeld => ?_)
                clear hK KK hHeld
                try simp only [Act.put, List.setIfInBounds_toArray, List.set_cons_zero, List.set_cons_succ]
                refine wpAnyH_ready (rs := [6]) (by kernel_rfl) (by simp) ?_
                refine AllReadyH.cons (o := ⟨some 87, .buildSlice 33 1 #[(0, .tmp 86)], 33, "free.go:45", #[⟨5, .data⟩], none⟩) rfl (fun KK hK => ?_) (AllReadyH.nil)
                go_simp
                refine hK.out _ _ trivial (fun hHeld => ?_)
                clear hK KK hHeld
                try simp only [Act.put, List.setIfInBounds_toArray, List.set_cons_zero, List.set_cons_succ]
                refine wpAnyH_ready (rs := [7]) (by kernel_rfl) (by simp) ?_
                refine AllReadyH.cons (o := ⟨some 88, .call ⟨.builtin .append, #[.tmp 85, .tmp 87], #[33, 33]⟩, 33, "free.go:45", #[⟨4, .data⟩, ⟨6, .data⟩, ⟨5, .chain⟩], none⟩) rfl (fun KK hK => ?_) (AllReadyH.nil)
                have rw7 : w7.ownsRow 0 56 1 wv L (xs.map It.val) := by
                  have := T7.x.row
                  rwa [hxl] at this
                refine step_append_lies _ rfl _ _ 33 rfl 0 56 i1 (.slice none 0 0) 1 24 Tryz.underlying33 ki kz0 kz1 kz2 rfl (by decide) wv L _ rfl (rw7.alloc _) ⟨w7.heap.size, 0, none⟩ 1 1 [.slice (some ⟨g7, 0, none⟩) 512 c7] rfl rfl (cell_one7 _ _ _) (by intro u hu; simp at hu; subst hu; rfl) (by decide) (by unfold maxLen; omega) (by omega) (by omega) _ rfl ?_
                intro g8 c8 w8 ho8 hg8 hat8 hlt8
                have X8 := T7.grow2 hg8
                have z4 : w8.cell? ⟨tw, 4, none⟩ = some wv := by simp [World.cell?, X8]
                have zf8 : w8.frozen? ⟨tw, 4, none⟩ = false := by simp [World.frozen?, X8]
                refine hK.out _ _ trivial (fun hHeld => ?_)
                clear hK KK hHeld
                try simp only [Act.put, List.setIfInBounds_toArray, List.set_cons_zero, List.set_cons_succ]
                refine wpAnyH_take (i := 8) (oi := ⟨some 89, .nilCheck (.tmp 81), 0, "free.go:45", #[⟨0, .data⟩, ⟨0, .phase⟩, ⟨1, .phase⟩, ⟨2, .phase⟩, ⟨3, .phase⟩, ⟨4, .phase⟩, ⟨5, .phase⟩, ⟨6, .phase⟩, ⟨7, .phase⟩], none⟩) (v := (.pointer (some ⟨tw, 0, none⟩))) rfl (by kernel_rfl) (by kernel_rfl) (by kernel_rfl) (fun _ _ _ h => h) (Or.inl ⟨by rfl, fun _ _ => by rfl⟩) trivial ?_
                simp only [Act.put, List.setIfInBounds_toArray, List.set_cons_zero, List.set_cons_succ]
                refine wpAnyH_take (i := 9) (oi := ⟨some 90, .fieldAddr 42 (.tmp 89) 4, 0, "free.go:45", #[⟨8, .data⟩, ⟨0, .phase⟩, ⟨1, .phase⟩, ⟨2, .phase⟩, ⟨3, .phase⟩, ⟨4, .phase⟩, ⟨5, .phase⟩, ⟨6, .phase⟩, ⟨7, .phase⟩], none⟩) (v := (.pointer (some ⟨tw, 4, none⟩))) rfl (by kernel_rfl) (by kernel_rfl) (by kernel_rfl) (fun _ _ _ h => h) (Or.inl ⟨by rfl, fun _ _ => by rfl⟩) trivial ?_
                simp only [Act.put, List.setIfInBounds_toArray, List.set_cons_zero, List.set_cons_succ]
                refine wpAnyH_ready (rs := [10]) (by kernel_rfl) (by simp) ?_
                refine AllReadyH.cons (o := ⟨none, .store 33 (.tmp 90) (.tmp 88), 0, "free.go:45", #[⟨9, .data⟩, ⟨7, .data⟩, ⟨7, .chain⟩, ⟨0, .phase⟩, ⟨1, .phase⟩, ⟨2, .phase⟩, ⟨3, .phase⟩, ⟨4, .phase⟩, ⟨5, .phase⟩, ⟨6, .phase⟩, ⟨7, .phase⟩], none⟩) rfl (fun KK hK => ?_) (AllReadyH.nil)
                go_simp
                refine hK.out _ _ trivial (fun hHeld => ?_)
                clear hK KK hHeld
                try simp only [Act.put, List.setIfInBounds_toArray, List.set_cons_zero, List.set_cons_succ]
                refine wpAnyH_done (by kernel_rfl) ?_ _
                have HE := town_end D T B ltw lo lw ho HL.out hxl hxz hat5 T6 t6 o7 b7 ho8 hg8 hat8
                obtain ⟨W9, hW9⟩ : ∃ W9, w8.setCell ⟨tw, 4, none⟩ (.slice (some ⟨g8, 0, none⟩) (L + 1) c8) = W9 := ⟨_, rfl⟩
                rw [hW9] at HE
                try rw [hW9]
                clear hW9 z4 zf8 X8 ho8 hg8 hat8 hlt8 rw7 u4 u4a T7 o7 b7 T6 t6 hW6 y4d ho5 hg5 hat5 hlt5 T D
                go_wp2_with fail
                go_roundw
                case rel => exact ⟨b + 1, by omega, by simp, HE⟩
                case measure => simp [intOf]; omega
              · go_simp
                refine hK.out _ _ trivial (fun hHeld => ?_)
                clear hK KK hHeld
                try simp only [Act.put, List.setIfInBounds_toArray, List.set_cons_zero, List.set_cons_succ]
                refine wpAnyH_ready (rs := [4]) (by kernel_rfl) (by simp) ?_
                refine AllReadyH.cons (o := ⟨some 85, .load 33 (.tmp 84), 33, "free.go:45", #[⟨3, .data⟩], none⟩) rfl (fun KK hK => ?_) (AllReadyH.nil)
                go_simp
                refine hK.out _ _ trivial (fun hHeld => ?_)
                clear hK KK hHeld
                try simp only [Act.put, List.setIfInBounds_toArray, List.set_cons_zero, List.set_cons_succ]
                refine wpAnyH_ready (rs := [7]) (by kernel_rfl) (by simp) ?_
                refine AllReadyH.cons (o := ⟨some 88, .call ⟨.builtin .append, #[.tmp 85, .tmp 87], #[33, 33]⟩, 33, "free.go:45", #[⟨4, .data⟩, ⟨6, .data⟩, ⟨5, .chain⟩], none⟩) rfl (fun KK hK => ?_) (AllReadyH.nil)
                have rw7 : w7.ownsRow 0 56 1 wv L (xs.map It.val) := by
                  have := T7.x.row
                  rwa [hxl] at this
                refine step_append_lies _ rfl _ _ 33 rfl 0 56 i1 (.slice none 0 0) 1 24 Tryz.underlying33 ki kz0 kz1 kz2 rfl (by decide) wv L _ rfl (rw7.alloc _) ⟨w7.heap.size, 0, none⟩ 1 1 [.slice (some ⟨g7, 0, none⟩) 512 c7] rfl rfl (cell_one7 _ _ _) (by intro u hu; simp at hu; subst hu; rfl) (by decide) (by unfold maxLen; omega) (by omega) (by omega) _ rfl ?_
                intro g8 c8 w8 ho8 hg8 hat8 hlt8
                have X8 := T7.grow2 hg8
                have z4 : w8.cell? ⟨tw, 4, none⟩ = some wv := by simp [World.cell?, X8]
                have zf8 : w8.frozen? ⟨tw, 4, none⟩ = false := by simp [World.frozen?, X8]
                refine hK.out _ _ trivial (fun hHeld => ?_)
                clear hK KK hHeld
                try simp only [Act.put, List.setIfInBounds_toArray, List.set_cons_zero, List.set_cons_succ]
                refine wpAnyH_take (i := 8) (oi := ⟨some 89, .nilCheck (.tmp 81), 0, "free.go:45", #[⟨0, .data⟩, ⟨0, .phase⟩, ⟨1, .phase⟩, ⟨2, .phase⟩, ⟨3, .phase⟩, ⟨4, .phase⟩, ⟨5, .phase⟩, ⟨6, .phase⟩, ⟨7, .phase⟩], none⟩) (v := (.pointer (some ⟨tw, 0, none⟩))) rfl (by kernel_rfl) (by kernel_rfl) (by kernel_rfl) (fun _ _ _ h => h) (Or.inl ⟨by rfl, fun _ _ => by rfl⟩) trivial ?_
                simp only [Act.put, List.setIfInBounds_toArray, List.set_cons_zero, List.set_cons_succ]
                refine wpAnyH_take (i := 9) (oi := ⟨some 90, .fieldAddr 42 (.tmp 89) 4, 0, "free.go:45", #[⟨8, .data⟩, ⟨0, .phase⟩, ⟨1, .phase⟩, ⟨2, .phase⟩, ⟨3, .phase⟩, ⟨4, .phase⟩, ⟨5, .phase⟩, ⟨6, .phase⟩, ⟨7, .phase⟩], none⟩) (v := (.pointer (some ⟨tw, 4, none⟩))) rfl (by kernel_rfl) (by kernel_rfl) (by kernel_rfl) (fun _ _ _ h => h) (Or.inl ⟨by rfl, fun _ _ => by rfl⟩) trivial ?_
                simp only [Act.put, List.setIfInBounds_toArray, List.set_cons_zero, List.set_cons_succ]
                refine wpAnyH_ready (rs := [10]) (by kernel_rfl) (by simp) ?_
                refine AllReadyH.cons (o := ⟨none, .store 33 (.tmp 90) (.tmp 88), 0, "free.go:45", #[⟨9, .data⟩, ⟨7, .data⟩, ⟨7, .chain⟩, ⟨0, .phase⟩, ⟨1, .phase⟩, ⟨2, .phase⟩, ⟨3, .phase⟩, ⟨4, .phase⟩, ⟨5, .phase⟩, ⟨6, .phase⟩, ⟨7, .phase⟩], none⟩) rfl (fun KK hK => ?_) (AllReadyH.nil)
                go_simp
                refine hK.out _ _ trivial (fun hHeld => ?_)
                clear hK KK hHeld
                try simp only [Act.put, List.setIfInBounds_toArray, List.set_cons_zero, List.set_cons_succ]
                refine wpAnyH_done (by kernel_rfl) ?_ _
                have HE := town_end D T B ltw lo lw ho HL.out hxl hxz hat5 T6 t6 o7 b7 ho8 hg8 hat8
                obtain ⟨W9, hW9⟩ : ∃ W9, w8.setCell ⟨tw, 4, none⟩ (.slice (some ⟨g8, 0, none⟩) (L + 1) c8) = W9 := ⟨_, rfl⟩
                rw [hW9] at HE
                try rw [hW9]
                clear hW9 z4 zf8 X8 ho8 hg8 hat8 hlt8 rw7 u4 u4a T7 o7 b7 T6 t6 hW6 y4d ho5 hg5 hat5 hlt5 T D
                go_wp2_with fail
                go_roundw
                case rel => exact ⟨b + 1, by omega, by simp, HE⟩
                case measure => simp [intOf]; omega
          · have h32 : 32 ≤ b := by
              simp [outB7] at ho; omega
            have hb2i : ¬ (b : Int) < 2 := by omega
            have h32i : (32 : Int) ≤ b := by omega
            go_wp2_with (first
              | (at_builtin; refine wpList_append_lies _ rfl _ _ 40 rfl 0 3 i0 (.int .i64 0) 1 8 Tryz.underlying40 hi hz0 hz1 hz2 rfl (by decide) ov L _ rfl (r3.alloc _) ⟨w4.heap.size, 0, none⟩ 1 1 [.int .i64 (b : Nat)] rfl rfl (cell_one7 _ _ _) (by intro u hu; simp at hu; subst hu; rfl) (by decide) (by unfold maxLen; omega) (by omega) (by omega) _ rfl ?_; intro g5 c5 w5 ho5 hg5 hat5 hlt5; have T5 := T.grow1 tl r3 hg5; have z3 : w5.cell? ⟨tw, 3, none⟩ = some ov := by { simp [World.cell?, T5.box] }; have zf : w5.frozen? ⟨tw, 3, none⟩ = false := by { simp [World.frozen?, T5.box] }))
            have hN6 := T.out HL.out D.lt ho5 hg5 hat5
            obtain ⟨W6, hW6⟩ : ∃ W6, w5.setCell ⟨tw, 3, none⟩ (.slice (some ⟨g5, 0, none⟩) (L + 1) c5) = W6 := ⟨_, rfl⟩
            rw [hW6] at hN6
            try rw [hW6]
            obtain ⟨T6, t6⟩ := hN6
            have y4d : W6.drew.cell? ⟨tw, 4, none⟩ = some wv := by
              have : W6.drew.heap[tw]? = _ := T6.box
              simp [World.cell?, this]
            clear z3 zf T5 y3 y4
            refine wp_region_held_drew (S := fun _ => True) (by kernel_rfl) trivial (fun hHeld => ?_)
            clear hHeld
            refine wpAnyH_take (i := 0) (oi := ⟨some 81, .move (.tmp 8), 25, "free.go:45", #[], none⟩) (v := (.pointer (some ⟨tw, 0, none⟩))) rfl (by kernel_rfl) (by kernel_rfl) (by kernel_rfl) (fun _ _ _ h => h) (Or.inl ⟨by rfl, fun _ _ => by rfl⟩) trivial ?_
            simp only [Act.put, List.setIfInBounds_toArray, List.set_cons_zero, List.set_cons_succ]
            refine wpAnyH_take (i := 1) (oi := ⟨some 82, .move (.tmp 8), 25, "free.go:45", #[], none⟩) (v := (.pointer (some ⟨tw, 0, none⟩))) rfl (by kernel_rfl) (by kernel_rfl) (by kernel_rfl) (fun _ _ _ h => h) (Or.inl ⟨by rfl, fun _ _ => by rfl⟩) trivial ?_
            simp only [Act.put, List.setIfInBounds_toArray, List.set_cons_zero, List.set_cons_succ]
            refine wpAnyH_take (i := 2) (oi := ⟨some 83, .nilCheck (.tmp 82), 0, "free.go:45", #[⟨1, .data⟩], none⟩) (v := (.pointer (some ⟨tw, 0, none⟩))) rfl (by kernel_rfl) (by kernel_rfl) (by kernel_rfl) (fun _ _ _ h => h) (Or.inl ⟨by rfl, fun _ _ => by rfl⟩) trivial ?_
            simp only [Act.put, List.setIfInBounds_toArray, List.set_cons_zero, List.set_cons_succ]
            refine wpAnyH_take (i := 3) (oi := ⟨some 84, .fieldAddr 42 (.tmp 83) 4, 0, "free.go:45", #[⟨2, .data⟩], none⟩) (v := (.pointer (some ⟨tw, 4, none⟩))) rfl (by kernel_rfl) (by kernel_rfl) (by kernel_rfl) (fun _ _ _ h => h) (Or.inl ⟨by rfl, fun _ _ => by rfl⟩) trivial ?_
            simp only [Act.put, List.setIfInBounds_toArray, List.set_cons_zero, List.set_cons_succ]
            refine wpAnyH_ready (rs := [4, 5]) (by kernel_rfl) (by simp) ?_
            refine AllReadyH.cons (o := ⟨some 85, .load 33 (.tmp 84), 33, "free.go:45", #[⟨3, .data⟩], none⟩) rfl (fun KK hK => ?_) (AllReadyH.cons (o := ⟨some 86, .call ⟨.value (.func 28), #[.const (.slice none 0 0)], #[56]⟩, 56, "free.go:45", #[], none⟩) rfl (fun KK hK => ?_) (AllReadyH.nil))
            · go_simp
              refine hK.out _ _ trivial (fun hHeld => ?_)
              clear hK KK hHeld
              try simp only [Act.put, List.setIfInBounds_toArray, List.set_cons_zero, List.set_cons_succ]
              refine wpAnyH_ready (rs := [5]) (by kernel_rfl) (by simp) ?_
              refine AllReadyH.cons (o := ⟨some 86, .call ⟨.value (.func 28), #[.const (.slice none 0 0)], #[56]⟩, 56, "free.go:45", #[], none⟩) rfl (fun KK hK => ?_) (AllReadyH.nil)
              go_simp
              refine (block7 none 0 0 [] W6.drew (by omega) (Lies.nil _)).mono ?_
              rintro e w7 ⟨g7, c7, rfl, o7, b7⟩
              replace b7 := Below.fromDrew b7
              have T7 := T6.kp (Kp.below b7)
              have u4 : w7.cell? ⟨tw, 4, none⟩ = some wv := by simp [World.cell?, T7.box]
              have u4a : ∀ o, (w7.alloc o).cell? ⟨tw, 4, none⟩ = some wv := fun o => by
                have := (Below.heap_alloc w7 o tw (heap_lt T7.box)).trans T7.box
                simp [World.cell?, this]
              go_wp2_with fail
              refine hK.out _ _ trivial (fun hHeld => ?_)
              clear hK KK hHeld
              try simp only [Act.put, List.setIfInBounds_toArray, List.set_cons_zero, List.set_cons_succ]
              refine wpAnyH_ready (rs := [6]) (by kernel_rfl) (by simp) ?_
              refine AllReadyH.cons (o := ⟨some 87, .buildSlice 33 1 #[(0, .tmp 86)], 33, "free.go:45", #[⟨5, .data⟩], none⟩) rfl (fun KK hK => ?_) (AllReadyH.nil)
              go_simp
              refine hK.out _ _ trivial (fun hHeld => ?_)
              clear hK KK hHeld
              try simp only [Act.put, List.setIfInBounds_toArray, List.set_cons_zero, List.set_cons_succ]
              refine wpAnyH_ready (rs := [7]) (by kernel_rfl) (by simp) ?_
              refine AllReadyH.cons (o := ⟨some 88, .call ⟨.builtin .append, #[.tmp 85, .tmp 87], #[33, 33]⟩, 33, "free.go:45", #[⟨4, .data⟩, ⟨6, .data⟩, ⟨5, .chain⟩], none⟩) rfl (fun KK hK => ?_) (AllReadyH.nil)
              have rw7 : w7.ownsRow 0 56 1 wv L (xs.map It.val) := by
                have := T7.x.row
                rwa [hxl] at this
              refine step_append_lies _ rfl _ _ 33 rfl 0 56 i1 (.slice none 0 0) 1 24 Tryz.underlying33 ki kz0 kz1 kz2 rfl (by decide) wv L _ rfl (rw7.alloc _) ⟨w7.heap.size, 0, none⟩ 1 1 [.slice (some ⟨g7, 0, none⟩) 512 c7] rfl rfl (cell_one7 _ _ _) (by intro u hu; simp at hu; subst hu; rfl) (by decide) (by unfold maxLen; omega) (by omega) (by omega) _ rfl ?_
              intro g8 c8 w8 ho8 hg8 hat8 hlt8
              have X8 := T7.grow2 hg8
              have z4 : w8.cell? ⟨tw, 4, none⟩ = some wv := by simp [World.cell?, X8]
              have zf8 : w8.frozen? ⟨tw, 4, none⟩ = false := by simp [World.frozen?, X8]
              refine hK.out _ _ trivial (fun hHeld => ?_)
              clear hK KK hHeld
              try simp only [Act.put, List.setIfInBounds_toArray, List.set_cons_zero, List.set_cons_succ]
              refine wpAnyH_take (i := 8) (oi := ⟨some 89, .nilCheck (.tmp 81), 0, "free.go:45", #[⟨0, .data⟩, ⟨0, .phase⟩, ⟨1, .phase⟩, ⟨2, .phase⟩, ⟨3, .phase⟩, ⟨4, .phase⟩, ⟨5, .phase⟩, ⟨6, .phase⟩, ⟨7, .phase⟩], none⟩) (v := (.pointer (some ⟨tw, 0, none⟩))) rfl (by kernel_rfl) (by kernel_rfl) (by kernel_rfl) (fun _ _ _ h => h) (Or.inl ⟨by rfl, fun _ _ => by rfl⟩) trivial ?_
              simp only [Act.put, List.setIfInBounds_toArray, List.set_cons_zero, List.set_cons_succ]
              refine wpAnyH_take (i := 9) (oi := ⟨some 90, .fieldAddr 42 (.tmp 89) 4, 0, "free.go:45", #[⟨8, .data⟩, ⟨0, .phase⟩, ⟨1, .phase⟩, ⟨2, .phase⟩, ⟨3, .phase⟩, ⟨4, .phase⟩, ⟨5, .phase⟩, ⟨6, .phase⟩, ⟨7, .phase⟩], none⟩) (v := (.pointer (some ⟨tw, 4, none⟩))) rfl (by kernel_rfl) (by kernel_rfl) (by kernel_rfl) (fun _ _ _ h => h) (Or.inl ⟨by rfl, fun _ _ => by rfl⟩) trivial ?_
              simp only [Act.put, List.setIfInBounds_toArray, List.set_cons_zero, List.set_cons_succ]
              refine wpAnyH_ready (rs := [10]) (by kernel_rfl) (by simp) ?_
              refine AllReadyH.cons (o := ⟨none, .store 33 (.tmp 90) (.tmp 88), 0, "free.go:45", #[⟨9, .data⟩, ⟨7, .data⟩, ⟨7, .chain⟩, ⟨0, .phase⟩, ⟨1, .phase⟩, ⟨2, .phase⟩, ⟨3, .phase⟩, ⟨4, .phase⟩, ⟨5, .phase⟩, ⟨6, .phase⟩, ⟨7, .phase⟩], none⟩) rfl (fun KK hK => ?_) (AllReadyH.nil)
              go_simp
              refine hK.out _ _ trivial (fun hHeld => ?_)
              clear hK KK hHeld
              try simp only [Act.put, List.setIfInBounds_toArray, List.set_cons_zero, List.set_cons_succ]
              refine wpAnyH_done (by kernel_rfl) ?_ _
              have HE := town_end D T B ltw lo lw ho HL.out hxl hxz hat5 T6 t6 o7 b7 ho8 hg8 hat8
              obtain ⟨W9, hW9⟩ : ∃ W9, w8.setCell ⟨tw, 4, none⟩ (.slice (some ⟨g8, 0, none⟩) (L + 1) c8) = W9 := ⟨_, rfl⟩
              rw [hW9] at HE
              try rw [hW9]
              clear hW9 z4 zf8 X8 ho8 hg8 hat8 hlt8 rw7 u4 u4a T7 o7 b7 T6 t6 hW6 y4d ho5 hg5 hat5 hlt5 T D
              go_wp2_with fail
              go_roundw
              case rel => exact ⟨b + 1, by omega, by simp, HE⟩
              case measure => simp [intOf]; omega
            · go_simp
              refine (block7 none 0 0 [] W6.drew (by omega) (Lies.nil _)).mono ?_
              rintro e w7 ⟨g7, c7, rfl, o7, b7⟩
              replace b7 := Below.fromDrew b7
              have T7 := T6.kp (Kp.below b7)
              have u4 : w7.cell? ⟨tw, 4, none⟩ = some wv := by simp [World.cell?, T7.box]
              have u4a : ∀ o, (w7.alloc o).cell? ⟨tw, 4, none⟩ = some wv := fun o => by
                have := (Below.heap_alloc w7 o tw (heap_lt T7.box)).trans T7.box
                simp [World.cell?, this]
              go_wp2_with fail
              refine hK.out _ _ trivial (fun hHeld => ?_)
              clear hK KK hHeld
              try simp only [Act.put, List.setIfInBounds_toArray, List.set_cons_zero, List.set_cons_succ]
              refine wpAnyH_ready (rs := [4, 6]) (by kernel_rfl) (by simp) ?_
              refine AllReadyH.cons (o := ⟨some 85, .load 33 (.tmp 84), 33, "free.go:45", #[⟨3, .data⟩], none⟩) rfl (fun KK hK => ?_) (AllReadyH.cons (o := ⟨some 87, .buildSlice 33 1 #[(0, .tmp 86)], 33, "free.go:45", #[⟨5, .data⟩], none⟩) rfl (fun KK hK => ?_) (AllReadyH.nil))
              · go_simp
                refine hK.out _ _ trivial (fun hHeld => ?_)
                clear hK KK hHeld
                try simp only [Act.put, List.setIfInBounds_toArray, List.set_cons_zero, List.set_cons_succ]
                refine wpAnyH_ready (rs := [6]) (by kernel_rfl) (by simp) ?_
                refine AllReadyH.cons (o := ⟨some 87, .buildSlice 33 1 #[(0, .tmp 86)], 33, "free.go:45", #[⟨5, .data⟩], none⟩) rfl (fun KK hK => ?_) (AllReadyH.nil)
                go_simp
                refine hK.out _ _ trivial (fun hHeld => ?_)
                clear hK KK hHeld
                try simp only [Act.put, List.setIfInBounds_toArray, List.set_cons_zero, List.set_cons_succ]
                refine wpAnyH_ready (rs := [7]) (by kernel_rfl) (by simp) ?_
                refine AllReadyH.cons (o := ⟨some 88, .call ⟨.builtin .append, #[.tmp 85, .tmp 87], #[33, 33]⟩, 33, "free.go:45", #[⟨4, .data⟩, ⟨6, .data⟩, ⟨5, .chain⟩], none⟩) rfl (fun KK hK => ?_) (AllReadyH.nil)
                have rw7 : w7.ownsRow 0 56 1 wv L (xs.map It.val) := by
                  have := T7.x.row
                  rwa [hxl] at this
                refine step_append_lies _ rfl _ _ 33 rfl 0 56 i1 (.slice none 0 0) 1 24 Tryz.underlying33 ki kz0 kz1 kz2 rfl (by decide) wv L _ rfl (rw7.alloc _) ⟨w7.heap.size, 0, none⟩ 1 1 [.slice (some ⟨g7, 0, none⟩) 512 c7] rfl rfl (cell_one7 _ _ _) (by intro u hu; simp at hu; subst hu; rfl) (by decide) (by unfold maxLen; omega) (by omega) (by omega) _ rfl ?_
                intro g8 c8 w8 ho8 hg8 hat8 hlt8
                have X8 := T7.grow2 hg8
                have z4 : w8.cell? ⟨tw, 4, none⟩ = some wv := by simp [World.cell?, X8]
                have zf8 : w8.frozen? ⟨tw, 4, none⟩ = false := by simp [World.frozen?, X8]
                refine hK.out _ _ trivial (fun hHeld => ?_)
                clear hK KK hHeld
                try simp only [Act.put, List.setIfInBounds_toArray, List.set_cons_zero, List.set_cons_succ]
                refine wpAnyH_take (i := 8) (oi := ⟨some 89, .nilCheck (.tmp 81), 0, "free.go:45", #[⟨0, .data⟩, ⟨0, .phase⟩, ⟨1, .phase⟩, ⟨2, .phase⟩, ⟨3, .phase⟩, ⟨4, .phase⟩, ⟨5, .phase⟩, ⟨6, .phase⟩, ⟨7, .phase⟩], none⟩) (v := (.pointer (some ⟨tw, 0, none⟩))) rfl (by kernel_rfl) (by kernel_rfl) (by kernel_rfl) (fun _ _ _ h => h) (Or.inl ⟨by rfl, fun _ _ => by rfl⟩) trivial ?_
                simp only [Act.put, List.setIfInBounds_toArray, List.set_cons_zero, List.set_cons_succ]
                refine wpAnyH_take (i := 9) (oi := ⟨some 90, .fieldAddr 42 (.tmp 89) 4, 0, "free.go:45", #[⟨8, .data⟩, ⟨0, .phase⟩, ⟨1, .phase⟩, ⟨2, .phase⟩, ⟨3, .phase⟩, ⟨4, .phase⟩, ⟨5, .phase⟩, ⟨6, .phase⟩, ⟨7, .phase⟩], none⟩) (v := (.pointer (some ⟨tw, 4, none⟩))) rfl (by kernel_rfl) (by kernel_rfl) (by kernel_rfl) (fun _ _ _ h => h) (Or.inl ⟨by rfl, fun _ _ => by rfl⟩) trivial ?_
                simp only [Act.put, List.setIfInBounds_toArray, List.set_cons_zero, List.set_cons_succ]
                refine wpAnyH_ready (rs := [10]) (by kernel_rfl) (by simp) ?_
                refine AllReadyH.cons (o := ⟨none, .store 33 (.tmp 90) (.tmp 88), 0, "free.go:45", #[⟨9, .data⟩, ⟨7, .data⟩, ⟨7, .chain⟩, ⟨0, .phase⟩, ⟨1, .phase⟩, ⟨2, .phase⟩, ⟨3, .phase⟩, ⟨4, .phase⟩, ⟨5, .phase⟩, ⟨6, .phase⟩, ⟨7, .phase⟩], none⟩) rfl (fun KK hK => ?_) (AllReadyH.nil)
                go_simp
                refine hK.out _ _ trivial (fun hHeld => ?_)
                clear hK KK hHeld
                try simp only [Act.put, List.setIfInBounds_toArray, List.set_cons_zero, List.set_cons_succ]
                refine wpAnyH_done (by kernel_rfl) ?_ _
                have HE := town_end D T B ltw lo lw ho HL.out hxl hxz hat5 T6 t6 o7 b7 ho8 hg8 hat8
                obtain ⟨W9, hW9⟩ : ∃ W9, w8.setCell ⟨tw, 4, none⟩ (.slice (some ⟨g8, 0, none⟩) (L + 1) c8) = W9 := ⟨_, rfl⟩
                rw [hW9] at HE
                try rw [hW9]
                clear hW9 z4 zf8 X8 ho8 hg8 hat8 hlt8 rw7 u4 u4a T7 o7 b7 T6 t6 hW6 y4d ho5 hg5 hat5 hlt5 T D
                go_wp2_with fail
                go_roundw
                case rel => exact ⟨b + 1, by omega, by simp, HE⟩
                case measure => simp [intOf]; omega
              · go_simp
                refine hK.out _ _ trivial (fun hHeld => ?_)
                clear hK KK hHeld
                try simp only [Act.put, List.setIfInBounds_toArray, List.set_cons_zero, List.set_cons_succ]
                refine wpAnyH_ready (rs := [4]) (by kernel_rfl) (by simp) ?_
                refine AllReadyH.cons (o := ⟨some 85, .load 33 (.tmp 84), 33, "free.go:45", #[⟨3, .data⟩], none⟩) rfl (fun KK hK => ?_) (AllReadyH.nil)
                go_simp
                refine hK.out _ _ trivial (fun hHeld => ?_)
                clear hK KK hHeld
                try simp only [Act.put, List.setIfInBounds_toArray, List.set_cons_zero, List.set_cons_succ]
                refine wpAnyH_ready (rs := [7]) (by kernel_rfl) (by simp) ?_
                refine AllReadyH.cons (o := ⟨some 88, .call ⟨.builtin .append, #[.tmp 85, .tmp 87], #[33, 33]⟩, 33, "free.go:45", #[⟨4, .data⟩, ⟨6, .data⟩, ⟨5, .chain⟩], none⟩) rfl (fun KK hK => ?_) (AllReadyH.nil)
                have rw7 : w7.ownsRow 0 56 1 wv L (xs.map It.val) := by
                  have := T7.x.row
                  rwa [hxl] at this
                refine step_append_lies _ rfl _ _ 33 rfl 0 56 i1 (.slice none 0 0) 1 24 Tryz.underlying33 ki kz0 kz1 kz2 rfl (by decide) wv L _ rfl (rw7.alloc _) ⟨w7.heap.size, 0, none⟩ 1 1 [.slice (some ⟨g7, 0, none⟩) 512 c7] rfl rfl (cell_one7 _ _ _) (by intro u hu; simp at hu; subst hu; rfl) (by decide) (by unfold maxLen; omega) (by omega) (by omega) _ rfl ?_
                intro g8 c8 w8 ho8 hg8 hat8 hlt8
                have X8 := T7.grow2 hg8
                have z4 : w8.cell? ⟨tw, 4, none⟩ = some wv := by simp [World.cell?, X8]
                have zf8 : w8.frozen? ⟨tw, 4, none⟩ = false := by simp [World.frozen?, X8]
                refine hK.out _ _ trivial (fun hHeld => ?_)
                clear hK KK hHeld
                try simp only [Act.put, List.setIfInBounds_toArray, List.set_cons_zero, List.set_cons_succ]
                refine wpAnyH_take (i := 8) (oi := ⟨some 89, .nilCheck (.tmp 81), 0, "free.go:45", #[⟨0, .data⟩, ⟨0, .phase⟩, ⟨1, .phase⟩, ⟨2, .phase⟩, ⟨3, .phase⟩, ⟨4, .phase⟩, ⟨5, .phase⟩, ⟨6, .phase⟩, ⟨7, .phase⟩], none⟩) (v := (.pointer (some ⟨tw, 0, none⟩))) rfl (by kernel_rfl) (by kernel_rfl) (by kernel_rfl) (fun _ _ _ h => h) (Or.inl ⟨by rfl, fun _ _ => by rfl⟩) trivial ?_
                simp only [Act.put, List.setIfInBounds_toArray, List.set_cons_zero, List.set_cons_succ]
                refine wpAnyH_take (i := 9) (oi := ⟨some 90, .fieldAddr 42 (.tmp 89) 4, 0, "free.go:45", #[⟨8, .data⟩, ⟨0, .phase⟩, ⟨1, .phase⟩, ⟨2, .phase⟩, ⟨3, .phase⟩, ⟨4, .phase⟩, ⟨5, .phase⟩, ⟨6, .phase⟩, ⟨7, .phase⟩], none⟩) (v := (.pointer (some ⟨tw, 4, none⟩))) rfl (by kernel_rfl) (by kernel_rfl) (by kernel_rfl) (fun _ _ _ h => h) (Or.inl ⟨by rfl, fun _ _ => by rfl⟩) trivial ?_
                simp only [Act.put, List.setIfInBounds_toArray, List.set_cons_zero, List.set_cons_succ]
                refine wpAnyH_ready (rs := [10]) (by kernel_rfl) (by simp) ?_
                refine AllReadyH.cons (o := ⟨none, .store 33 (.tmp 90) (.tmp 88), 0, "free.go:45", #[⟨9, .data⟩, ⟨7, .data⟩, ⟨7, .chain⟩, ⟨0, .phase⟩, ⟨1, .phase⟩, ⟨2, .phase⟩, ⟨3, .phase⟩, ⟨4, .phase⟩, ⟨5, .phase⟩, ⟨6, .phase⟩, ⟨7, .phase⟩], none⟩) rfl (fun KK hK => ?_) (AllReadyH.nil)
                go_simp
                refine hK.out _ _ trivial (fun hHeld => ?_)
                clear hK KK hHeld
                try simp only [Act.put, List.setIfInBounds_toArray, List.set_cons_zero, List.set_cons_succ]
                refine wpAnyH_done (by kernel_rfl) ?_ _
                have HE := town_end D T B ltw lo lw ho HL.out hxl hxz hat5 T6 t6 o7 b7 ho8 hg8 hat8
                obtain ⟨W9, hW9⟩ : ∃ W9, w8.setCell ⟨tw, 4, none⟩ (.slice (some ⟨g8, 0, none⟩) (L + 1) c8) = W9 := ⟨_, rfl⟩
                rw [hW9] at HE
                try rw [hW9]
                clear hW9 z4 zf8 X8 ho8 hg8 hat8 hlt8 rw7 u4 u4a T7 o7 b7 T6 t6 hW6 y4d ho5 hg5 hat5 hlt5 T D
                go_wp2_with fail
                go_roundw
                case rel => exact ⟨b + 1, by omega, by simp, HE⟩
                case measure => simp [intOf]; omega
        · have ho2 : ¬ b < 2 ∧ b < 32 := by
            simp [outB7] at ho; omega
          have hb2i : ¬ (b : Int) < 2 := by omega
          have h32i : ¬ (32 : Int) ≤ b := by omega
          have HE : TR w G tw db (b + 1) w4 := by
            have e : outs (b + 1) = outs b := by rw [outs_succ]; simp [ho]
            exact ⟨ov, wv, xs, D, by rw [e]; exact T, by rw [e]; exact hxl, hxz, lo, lw, B⟩
          clear D T hxl
          go_wp2_with fail
          go_roundw
          case rel => exact ⟨b + 1, by omega, by simp, HE⟩
          case measure => simp [intOf]; omega
      · have hb40 : b = 40 := by omega
        subst hb40
        have HT : Hid (Dev w4 db 0 F40 40 30 G ∧ Tn w4 G tw db ov wv (outs 40) xs ∧ xs.length = 10) := ⟨D, T, by rw [hxl, outs_40]; rfl⟩
        clear D T hxl
        go_wp2_with fail
        refine (num7 0 w4).mono ?_
        rintro e w5 ⟨rfl, rfl⟩
        go_wp2_with fail
        obtain ⟨Dz, Tz, lz⟩ := HT.out
        refine bodyPost_ret (results_tmp2 rfl _ _ _) rfl ?_
        exact ⟨tw, db, 30, G, ov, wv, xs, rfl, Dz, by omega, fun i hi => (f3 i hi).1, Tz, lz, hxz, ltw, lo, B⟩
  by_cases c2 : st < 0
  · as_aux_lemma =>
    go_enter Tryz.func10, Tryz.ntmps10
    go_wp2_with fail
    refine (new_good 40 w (by omega) (by omega)).mono ?_
    rintro e w1 ⟨db, rfl, D1, b1⟩
    replace D1 : Dev w1 db 0 S40 40 0 (grow (fun _ => False) w w1) := D1
    obtain ⟨W2, hW2⟩ : ∃ W, w1.alloc (.cells #[.pointer (some ⟨db, 0, none⟩), .int .i64 2, .int .i64 30, .slice none 0 0, .slice none 0 0] 42) = W := ⟨_, rfl⟩
    have b2 : Below w1.heap.size w1 W2 := by rw [← hW2]; exact (Below.refl _ w1).alloc (Nat.le_refl _) _
    have s2 : W2.heap.size = w1.heap.size + 1 := by rw [← hW2]; simp
    have X2 : W2.heap[w1.heap.size]? = some (.cells #[.pointer (some ⟨db, 0, none⟩), .int .i64 2, .int .i64 30, .slice none 0 0, .slice none 0 0] 42) := by rw [← hW2]; exact (MapKept.heap_alloc w1 _).1
    have D2 := D1.below b2
    obtain ⟨tw, htw⟩ : ∃ tw, w1.heap.size = tw := ⟨_, rfl⟩
    rw [htw] at X2
    have q0 : W2.cell? ⟨tw, 0, none⟩ = some (.pointer (some ⟨db, 0, none⟩)) := by simp [World.cell?, X2]
    go_wp2_with fail
    try rw [hW2]
    try rw [htw]
    refine (format40 D2 (by omega)).mono ?_
    rintro e w3 ⟨rfl, D3, t3⟩
    have sb1 := b1.size
    have f1 : ∀ i, grow (fun _ => False) w w1 i → w.heap.size ≤ i ∧ i < w1.heap.size := fun i hi => hi.elim False.elim (fun r => r)
    have X3 := (t3.block tw (heap_lt X2) (fun r => by have := f1 tw r; omega)).trans X2
    have b02 : Below w.heap.size w W2 := b1.trans (b2.mono b1.size)
    have B3 : Below w.heap.size w w3 := b02.trans (t3.below (fun i r => (f1 i r).1) b02.size)
    have f3 : ∀ i, grow (grow (fun _ => False) w w1) W2 w3 i → w.heap.size ≤ i ∧ i ≠ tw := fun i hi => hi.elim (fun r => ⟨(f1 i r).1, by have := f1 i r; omega⟩) (fun r => ⟨by omega, by omega⟩)
    generalize grow (grow (fun _ => False) w w1) W2 w3 = G at D3 f3
    have hGl := D3.lt
    have T3 : Tn w3 G tw db (.slice none 0 0) (.slice none 0 0) (outs 0) [] := ⟨X3, ⟨⟨rfl, Or.inl ⟨rfl, rfl⟩⟩, (fun b hb => by cases hb)⟩, ⟨⟨rfl, Or.inl ⟨rfl, rfl⟩⟩, (fun b hb => by cases hb), (fun x hx => by cases hx)⟩, fun r => (f3 tw r).2 rfl⟩
    have ltw : w.heap.size ≤ tw := by omega
    clear D1 D2 t3 q0 X2 X3 hW2 f1
    go_wp2_with fail
    go_loopw [10] (fun i wr => ∃ (b : Nat), b ≤ 40 ∧ i = .int .i64 b ∧ TR w G tw db b wr) (fun i _ => 40 - (intOf i).toNat)
    case atStart => exact ⟨0, by omega, rfl, _, _, [], D3, T3, rfl, (fun x hx => by cases hx), (fun c hc => by cases hc), (fun c hc => by cases hc), B3⟩
    case round =>
      clear D3 T3 B3
      obtain ⟨b, hb, rfl, ov, wv, xs, D, T, hxl, hxz, lo, lw, B⟩ := hrel
      obtain ⟨w4, hw4⟩ : ∃ w4, w4 = wr := ⟨wr, rfl⟩
      subst hw4
      by_cases hlt : b < 40
      · have hbi : (b : Int) < 40 := by omega
        by_cases ho : outB7 b = true
        · have y3 : w4.cell? ⟨tw, 3, none⟩ = some ov := by simp [World.cell?, T.box]
          have y4 : w4.cell? ⟨tw, 4, none⟩ = some wv := by simp [World.cell?, T.box]
          have r3 := T.o.row
          have ol := outs_le b
          have s4 := B.size
          have tl := heap_lt T.box
          have hD4 := D.lt
          obtain ⟨L, hL⟩ : ∃ L, (outs b).length = L := ⟨_, rfl⟩
          have HL : Hid ((outs b).length = L) := hL
          rw [hL] at r3 ol hxl
          clear hL
          by_cases hb2 : b < 2
          · have hb2i : (b : Int) < 2 := by omega
            go_wp2_with (first
              | (at_builtin; refine wpList_append_lies _ rfl _ _ 40 rfl 0 3 i0 (.int .i64 0) 1 8 Tryz.underlying40 hi hz0 hz1 hz2 rfl (by decide) ov L _ rfl (r3.alloc _) ⟨w4.heap.size, 0, none⟩ 1 1 [.int .i64 (b : Nat)] rfl rfl (cell_one7 _ _ _) (by intro u hu; simp at hu; subst hu; rfl) (by decide) (by unfold maxLen; omega) (by omega) (by omega) _ rfl ?_; intro g5 c5 w5 ho5 hg5 hat5 hlt5; have T5 := T.grow1 tl r3 hg5; have z3 : w5.cell? ⟨tw, 3, none⟩ = some ov := by { simp [World.cell?, T5.box] }; have zf : w5.frozen? ⟨tw, 3, none⟩ = false := by { simp [World.frozen?, T5.box] }))
            have hN6 := T.out HL.out D.lt ho5 hg5 hat5
            obtain ⟨W6, hW6⟩ : ∃ W6, w5.setCell ⟨tw, 3, none⟩ (.slice (some ⟨g5, 0, none⟩) (L + 1) c5) = W6 := ⟨_, rfl⟩
            rw [hW6] at hN6
            try rw [hW6]
            obtain ⟨T6, t6⟩ := hN6
            have y4d : W6.drew.cell? ⟨tw, 4, none⟩ = some wv := by
              have : W6.drew.heap[tw]? = _ := T6.box
              simp [World.cell?, this]
            clear z3 zf T5 y3 y4
            refine wp_region_held_drew (S := fun _ => True) (by kernel_rfl) trivial (fun hHeld => ?_)
            clear hHeld
            refine wpAnyH_take (i := 0) (oi := ⟨some 81, .move (.tmp 8), 25, "free.go:45", #[], none⟩) (v := (.pointer (some ⟨tw, 0, none⟩))) rfl (by kernel_rfl) (by kernel_rfl) (by kernel_rfl) (fun _ _ _ h => h) (Or.inl ⟨by rfl, fun _ _ => by rfl⟩) trivial ?_
            simp only [Act.put, List.setIfInBounds_toArray, List.set_cons_zero, List.set_cons_succ]
            refine wpAnyH_take (i := 1) (oi := ⟨some 82, .move (.tmp 8), 25, "free.go:45", #[], none⟩) (v := (.pointer (some ⟨tw, 0, none⟩))) rfl (by kernel_rfl) (by kernel_rfl) (by kernel_rfl) (fun _ _ _ h => h) (Or.inl ⟨by rfl, fun _ _ => by rfl⟩) trivial ?_
            simp only [Act.put, List.setIfInBounds_toArray, List.set_cons_zero, List.set_cons_succ]
            refine wpAnyH_take (i := 2) (oi := ⟨some 83, .nilCheck (.tmp 82), 0, "free.go:45", #[⟨1, .data⟩], none⟩) (v := (.pointer (some ⟨tw, 0, none⟩))) rfl (by kernel_rfl) (by kernel_rfl) (by kernel_rfl) (fun _ _ _ h => h) (Or.inl ⟨by rfl, fun _ _ => by rfl⟩) trivial ?_
            simp only [Act.put, List.setIfInBounds_toArray, List.set_cons_zero, List.set_cons_succ]
            refine wpAnyH_take (i := 3) (oi := ⟨some 84, .fieldAddr 42 (.tmp 83) 4, 0, "free.go:45", #[⟨2, .data⟩], none⟩) (v := (.pointer (some ⟨tw, 4, none⟩))) rfl (by kernel_rfl) (by kernel_rfl) (by kernel_rfl) (fun _ _ _ h => h) (Or.inl ⟨by rfl, fun _ _ => by rfl⟩) trivial ?_
            simp only [Act.put, List.setIfInBounds_toArray, List.set_cons_zero, List.set_cons_succ]
            refine wpAnyH_ready (rs := [4, 5]) (by kernel_rfl) (by simp) ?_
            refine AllReadyH.cons (o := ⟨some 85, .load 33 (.tmp 84), 33, "free.go:45", #[⟨3, .data⟩], none⟩) rfl (fun KK hK => ?_) (AllReadyH.cons (o := ⟨some 86, .call ⟨.value (.func 28), #[.const (.slice none 0 0)], #[56]⟩, 56, "free.go:45", #[], none⟩) rfl (fun KK hK => ?_) (AllReadyH.nil))
            · go_simp
              refine hK.out _ _ trivial (fun hHeld => ?_)
              clear hK KK hHeld
              try simp only [Act.put, List.setIfInBounds_toArray, List.set_cons_zero, List.set_cons_succ]
              refine wpAnyH_ready (rs := [5]) (by kernel_rfl) (by simp) ?_
              refine AllReadyH.cons (o := ⟨some 86, .call ⟨.value (.func 28), #[.const (.slice none 0 0)], #[56]⟩, 56, "free.go:45", #[], none⟩) rfl (fun KK hK => ?_) (AllReadyH.nil)
              go_simp
              refine (block7 none 0 0 [] W6.drew (by omega) (Lies.nil _)).mono ?_
              rintro e w7 ⟨g7, c7, rfl, o7, b7⟩
              replace b7 := Below.fromDrew b7
              have T7 := T6.kp (Kp.below b7)
              have u4 : w7.cell? ⟨tw, 4, none⟩ = some wv := by simp [World.cell?, T7.box]
              have u4a : ∀ o, (w7.alloc o).cell? ⟨tw, 4, none⟩ = some wv := fun o => by
                have := (Below.heap_alloc w7 o tw (heap_lt T7.box)).trans T7.box
                simp [World.cell?, this]
              go_wp2_with fail
              refine hK.out _ _ trivial (fun hHeld => ?_)
              clear hK KK hHeld
              try simp only [Act.put, List.setIfInBounds_toArray, List.set_cons_zero, List.set_cons_succ]
              refine wpAnyH_ready (rs := [6]) (by kernel_rfl) (by simp) ?_
              refine AllReadyH.cons (o := ⟨some 87, .buildSlice 33 1 #[(0, .tmp 86)], 33, "free.go:45", #[⟨5, .data⟩], none⟩) rfl (fun KK hK => ?_) (AllReadyH.nil)
              go_simp
              refine hK.out _ _ trivial (fun hHeld => ?_)
              clear hK KK hHeld
              try simp only [Act.put, List.setIfInBounds_toArray, List.set_cons_zero, List.set_cons_succ]
              refine wpAnyH_ready (rs := [7]) (by kernel_rfl) (by simp) ?_
              refine AllReadyH.cons (o := ⟨some 88, .call ⟨.builtin .append, #[.tmp 85, .tmp 87], #[33, 33]⟩, 33, "free.go:45", #[⟨4, .data⟩, ⟨6, .data⟩, ⟨5, .chain⟩], none⟩) rfl (fun KK hK => ?_) (AllReadyH.nil)
              have rw7 : w7.ownsRow 0 56 1 wv L (xs.map It.val) := by
                have := T7.x.row
                rwa [hxl] at this
              refine step_append_lies _ rfl _ _ 33 rfl 0 56 i1 (.slice none 0 0) 1 24 Tryz.underlying33 ki kz0 kz1 kz2 rfl (by decide) wv L _ rfl (rw7.alloc _) ⟨w7.heap.size, 0, none⟩ 1 1 [.slice (some ⟨g7, 0, none⟩) 512 c7] rfl rfl (cell_one7 _ _ _) (by intro u hu; simp at hu; subst hu; rfl) (by decide) (by unfold maxLen; omega) (by omega) (by omega) _ rfl ?_
              intro g8 c8 w8 ho8 hg8 hat8 hlt8
              have X8 := T7.grow2 hg8
              have z4 : w8.cell? ⟨tw, 4, none⟩ = some wv := by simp [World.cell?, X8]
              have zf8 : w8.frozen? ⟨tw, 4, none⟩ = false := by simp [World.frozen?, X8]
              refine hK.out _ _ trivial (fun hHeld => ?_)
              clear hK KK hHeld
              try simp only [Act.put, List.setIfInBounds_toArray, List.set_cons_zero, List.set_cons_succ]
              refine wpAnyH_take (i := 8) (oi := ⟨some 89, .nilCheck (.tmp 81), 0, "free.go:45", #[⟨0, .data⟩, ⟨0, .phase⟩, ⟨1, .phase⟩, ⟨2, .phase⟩, ⟨3, .phase⟩, ⟨4, .phase⟩, ⟨5, .phase⟩, ⟨6, .phase⟩, ⟨7, .phase⟩], none⟩) (v := (.pointer (some ⟨tw, 0, none⟩))) rfl (by kernel_rfl) (by kernel_rfl) (by kernel_rfl) (fun _ _ _ h => h) (Or.inl ⟨by rfl, fun _ _ => by rfl⟩) trivial ?_
              simp only [Act.put, List.setIfInBounds_toArray, List.set_cons_zero, List.set_cons_succ]
              refine wpAnyH_take (i := 9) (oi := ⟨some 90, .fieldAddr 42 (.tmp 89) 4, 0, "free.go:45", #[⟨8, .data⟩, ⟨0, .phase⟩, ⟨1, .phase⟩, ⟨2, .phase⟩, ⟨3, .phase⟩, ⟨4, .phase⟩, ⟨5, .phase⟩, ⟨6, .phase⟩, ⟨7, .phase⟩], none⟩) (v := (.pointer (some ⟨tw, 4, none⟩))) rfl (by kernel_rfl) (by kernel_rfl) (by kernel_rfl) (fun _ _ _ h => h) (Or.inl ⟨by rfl, fun _ _ => by rfl⟩) trivial ?_
              simp only [Act.put, List.setIfInBounds_toArray, List.set_cons_zero, List.set_cons_succ]
              refine wpAnyH_ready (rs := [10]) (by kernel_rfl) (by simp) ?_
              refine AllReadyH.cons (o := ⟨none, .store 33 (.tmp 90) (.tmp 88), 0, "free.go:45", #[⟨9, .data⟩, ⟨7, .data⟩, ⟨7, .chain⟩, ⟨0, .phase⟩, ⟨1, .phase⟩, ⟨2, .phase⟩, ⟨3, .phase⟩, ⟨4, .phase⟩, ⟨5, .phase⟩, ⟨6, .phase⟩, ⟨7, .phase⟩], none⟩) rfl (fun KK hK => ?_) (AllReadyH.nil)
              go_simp
              refine hK.out _ _ trivial (fun hHeld => ?_)
              clear hK KK hHeld
              try simp only [Act.put, List.setIfInBounds_toArray, List.set_cons_zero, List.set_cons_succ]
              refine wpAnyH_done (by kernel_rfl) ?_ _
              have HE := town_end D T B ltw lo lw ho HL.out hxl hxz hat5 T6 t6 o7 b7 ho8 hg8 hat8
              obtain ⟨W9, hW9⟩ : ∃ W9, w8.setCell ⟨tw, 4, none⟩ (.slice (some ⟨g8, 0, none⟩) (L + 1) c8) = W9 := ⟨_, rfl⟩
              rw [hW9] at HE
              try rw [hW9]
              clear hW9 z4 zf8 X8 ho8 hg8 hat8 hlt8 rw7 u4 u4a T7 o7 b7 T6 t6 hW6 y4d ho5 hg5 hat5 hlt5 T D
              go_wp2_with fail
              go_roundw
              case rel => exact ⟨b + 1, by omega, by simp, HE⟩
              case measure => simp [intOf]; omega
            · go_simp
              refine (block7 none 0 0 [] W6.drew (by omega) (Lies.nil _)).mono ?_
              rintro e w7 ⟨g7, c7, rfl, o7, b7⟩
              replace b7 := Below.fromDrew b7
              have T7 := T6.kp (Kp.below b7)
              have u4 : w7.cell? ⟨tw, 4, none⟩ = some wv := by simp [World.cell?, T7.box]
              have u4a : ∀ o, (w7.alloc o).cell? ⟨tw, 4, none⟩ = some wv := fun o => by
                have := (Below.heap_alloc w7 o tw (heap_lt T7.box)).trans T7.box
                simp [World.cell?, this]
              go_wp2_with fail
              refine hK.out _ _ trivial (fun hHeld => ?_)
              clear hK KK hHeld
              try simp only [Act.put, List.setIfInBounds_toArray, List.set_cons_zero, List.set_cons_succ]
              refine wpAnyH_ready (rs := [4, 6]) (by kernel_rfl) (by simp) ?_
              refine AllReadyH.cons (o := ⟨some 85, .load 33 (.tmp 84), 33, "free.go:45", #[⟨3, .data⟩], none⟩) rfl (fun KK hK => ?_) (AllReadyH.cons (o := ⟨some 87, .buildSlice 33 1 #[(0, .tmp 86)], 33, "free.go:45", #[⟨5, .data⟩], none⟩) rfl (fun KK hK => ?_) (AllReadyH.nil))
              · go_simp
                refine hK.out _ _ trivial (fun hHeld => ?_)
                clear hK KK hHeld
                try simp only [Act.put, List.setIfInBounds_toArray, List.set_cons_zero, List.set_cons_succ]
                refine wpAnyH_ready (rs := [6]) (by kernel_rfl) (by simp) ?_
                refine AllReadyH.cons (o := ⟨some 87, .buildSlice 33 1 #[(0, .tmp 86)], 33, "free.go:45", #[⟨5, .data⟩], none⟩) rfl (fun KK hK => ?_) (AllReadyH.nil)
                go_simp
                refine hK.out _ _ trivial (fun hHeld => ?_)
                clear hK KK hHeld
                try simp only [Act.put, List.setIfInBounds_toArray, List.set_cons_zero, List.set_cons_succ]
                refine wpAnyH_ready (rs := [7]) (by kernel_rfl) (by simp) ?_
                refine AllReadyH.cons (o := ⟨some 88, .call ⟨.builtin .append, #[.tmp 85, .tmp 87], #[33, 33]⟩, 33, "free.go:45", #[⟨4, .data⟩, ⟨6, .data⟩, ⟨5, .chain⟩], none⟩) rfl (fun KK hK => ?_) (AllReadyH.nil)
                have rw7 : w7.ownsRow 0 56 1 wv L (xs.map It.val) := by
                  have := T7.x.row
                  rwa [hxl] at this
                refine step_append_lies _ rfl _ _ 33 rfl 0 56 i1 (.slice none 0 0) 1 24 Tryz.underlying33 ki kz0 kz1 kz2 rfl (by decide) wv L _ rfl (rw7.alloc _) ⟨w7.heap.size, 0, none⟩ 1 1 [.slice (some ⟨g7, 0, none⟩) 512 c7] rfl rfl (cell_one7 _ _ _) (by intro u hu; simp at hu; subst hu; rfl) (by decide) (by unfold maxLen; omega) (by omega) (by omega) _ rfl ?_
                intro g8 c8 w8 ho8 hg8 hat8 hlt8
                have X8 := T7.grow2 hg8
                have z4 : w8.cell? ⟨tw, 4, none⟩ = some wv := by simp [World.cell?, X8]
                have zf8 : w8.frozen? ⟨tw, 4, none⟩ = false := by simp [World.frozen?, X8]
                refine hK.out _ _ trivial (fun hHeld => ?_)
                clear hK KK hHeld
                try simp only [Act.put, List.setIfInBounds_toArray, List.set_cons_zero, List.set_cons_succ]
                refine wpAnyH_take (i := 8) (oi := ⟨some 89, .nilCheck (.tmp 81), 0, "free.go:45", #[⟨0, .data⟩, ⟨0, .phase⟩, ⟨1, .phase⟩, ⟨2, .phase⟩, ⟨3, .phase⟩, ⟨4, .phase⟩, ⟨5, .phase⟩, ⟨6, .phase⟩, ⟨7, .phase⟩], none⟩) (v := (.pointer (some ⟨tw, 0, none⟩))) rfl (by kernel_rfl) (by kernel_rfl) (by kernel_rfl) (fun _ _ _ h => h) (Or.inl ⟨by rfl, fun _ _ => by rfl⟩) trivial ?_
                simp only [Act.put, List.setIfInBounds_toArray, List.set_cons_zero, List.set_cons_succ]
                refine wpAnyH_take (i := 9) (oi := ⟨some 90, .fieldAddr 42 (.tmp 89) 4, 0, "free.go:45", #[⟨8, .data⟩, ⟨0, .phase⟩, ⟨1, .phase⟩, ⟨2, .phase⟩, ⟨3, .phase⟩, ⟨4, .phase⟩, ⟨5, .phase⟩, ⟨6, .phase⟩, ⟨7, .phase⟩], none⟩) (v := (.pointer (some ⟨tw, 4, none⟩))) rfl (by kernel_rfl) (by kernel_rfl) (by kernel_rfl) (fun _ _ _ h => h) (Or.inl ⟨by rfl, fun _ _ => by rfl⟩) trivial ?_
                simp only [Act.put, List.setIfInBounds_toArray, List.set_cons_zero, List.set_cons_succ]
                refine wpAnyH_ready (rs := [10]) (by kernel_rfl) (by simp) ?_
                refine AllReadyH.cons (o := ⟨none, .store 33 (.tmp 90) (.tmp 88), 0, "free.go:45", #[⟨9, .data⟩, ⟨7, .data⟩, ⟨7, .chain⟩, ⟨0, .phase⟩, ⟨1, .phase⟩, ⟨2, .phase⟩, ⟨3, .phase⟩, ⟨4, .phase⟩, ⟨5, .phase⟩, ⟨6, .phase⟩, ⟨7, .phase⟩], none⟩) rfl (fun KK hK => ?_) (AllReadyH.nil)
                go_simp
                refine hK.out _ _ trivial (fun hHeld => ?_)
                clear hK KK hHeld
                try simp only [Act.put, List.setIfInBounds_toArray, List.set_cons_zero, List.set_cons_succ]
                refine wpAnyH_done (by kernel_rfl) ?_ _
                have HE := town_end D T B ltw lo lw ho HL.out hxl hxz hat5 T6 t6 o7 b7 ho8 hg8 hat8
                obtain ⟨W9, hW9⟩ : ∃ W9, w8.setCell ⟨tw, 4, none⟩ (.slice (some ⟨g8, 0, none⟩) (L + 1) c8) = W9 := ⟨_, rfl⟩
                rw [hW9] at HE
                try rw [hW9]
                clear hW9 z4 zf8 X8 ho8 hg8 hat8 hlt8 rw7 u4 u4a T7 o7 b7 T6 t6 hW6 y4d ho5 hg5 hat5 hlt5 T D
                go_wp2_with fail
                go_roundw
                case rel => exact ⟨b + 1, by omega, by simp, HE⟩
                case measure => simp [intOf]; omega
              · go_simp
                refine hK.out _ _ trivial (fun hHeld => ?_)
                clear hK KK hHeld
                try simp only [Act.put, List.setIfInBounds_toArray, List.set_cons_zero, List.set_cons_succ]
                refine wpAnyH_ready (rs := [4]) (by kernel_rfl) (by simp) ?_
                refine AllReadyH.cons (o := ⟨some 85, .load 33 (.tmp 84), 33, "free.go:45", #[⟨3, .data⟩], none⟩) rfl (fun KK hK => ?_) (AllReadyH.nil)
                go_simp
                refine hK.out _ _ trivial (fun hHeld => ?_)
                clear hK KK hHeld
                try simp only [Act.put, List.setIfInBounds_toArray, List.set_cons_zero, List.set_cons_succ]
                refine wpAnyH_ready (rs := [7]) (by kernel_rfl) (by simp) ?_
                refine AllReadyH.cons (o := ⟨some 88, .call ⟨.builtin .append, #[.tmp 85, .tmp 87], #[33, 33]⟩, 33, "free.go:45", #[⟨4, .data⟩, ⟨6, .data⟩, ⟨5, .chain⟩], none⟩) rfl (fun KK hK => ?_) (AllReadyH.nil)
                have rw7 : w7.ownsRow 0 56 1 wv L (xs.map It.val) := by
                  have := T7.x.row
                  rwa [hxl] at this
                refine step_append_lies _ rfl _ _ 33 rfl 0 56 i1 (.slice none 0 0) 1 24 Tryz.underlying33 ki kz0 kz1 kz2 rfl (by decide) wv L _ rfl (rw7.alloc _) ⟨w7.heap.size, 0, none⟩ 1 1 [.slice (some ⟨g7, 0, none⟩) 512 c7] rfl rfl (cell_one7 _ _ _) (by intro u hu; simp at hu; subst hu; rfl) (by decide) (by unfold maxLen; omega) (by omega) (by omega) _ rfl ?_
                intro g8 c8 w8 ho8 hg8 hat8 hlt8
                have X8 := T7.grow2 hg8
                have z4 : w8.cell? ⟨tw, 4, none⟩ = some wv := by simp [World.cell?, X8]
                have zf8 : w8.frozen? ⟨tw, 4, none⟩ = false := by simp [World.frozen?, X8]
                refine hK.out _ _ trivial (fun hHeld => ?_)
                clear hK KK hHeld
                try simp only [Act.put, List.setIfInBounds_toArray, List.set_cons_zero, List.set_cons_succ]
                refine wpAnyH_take (i := 8) (oi := ⟨some 89, .nilCheck (.tmp 81), 0, "free.go:45", #[⟨0, .data⟩, ⟨0, .phase⟩, ⟨1, .phase⟩, ⟨2, .phase⟩, ⟨3, .phase⟩, ⟨4, .phase⟩, ⟨5, .phase⟩, ⟨6, .phase⟩, ⟨7, .phase⟩], none⟩) (v := (.pointer (some ⟨tw, 0, none⟩))) rfl (by kernel_rfl) (by kernel_rfl) (by kernel_rfl) (fun _ _ _ h => h) (Or.inl ⟨by rfl, fun _ _ => by rfl⟩) trivial ?_
                simp only [Act.put, List.setIfInBounds_toArray, List.set_cons_zero, List.set_cons_succ]
                refine wpAnyH_take (i := 9) (oi := ⟨some 90, .fieldAddr 42 (.tmp 89) 4, 0, "free.go:45", #[⟨8, .data⟩, ⟨0, .phase⟩, ⟨1, .phase⟩, ⟨2, .phase⟩, ⟨3, .phase⟩, ⟨4, .phase⟩, ⟨5, .phase⟩, ⟨6, .phase⟩, ⟨7, .phase⟩], none⟩) (v := (.pointer (some ⟨tw, 4, none⟩))) rfl (by kernel_rfl) (by kernel_rfl) (by kernel_rfl) (fun _ _ _ h => h) (Or.inl ⟨by rfl, fun _ _ => by rfl⟩) trivial ?_
                simp only [Act.put, List.setIfInBounds_toArray, List.set_cons_zero, List.set_cons_succ]
                refine wpAnyH_ready (rs := [10]) (by kernel_rfl) (by simp) ?_
                refine AllReadyH.cons (o := ⟨none, .store 33 (.tmp 90) (.tmp 88), 0, "free.go:45", #[⟨9, .data⟩, ⟨7, .data⟩, ⟨7, .chain⟩, ⟨0, .phase⟩, ⟨1, .phase⟩, ⟨2, .phase⟩, ⟨3, .phase⟩, ⟨4, .phase⟩, ⟨5, .phase⟩, ⟨6, .phase⟩, ⟨7, .phase⟩], none⟩) rfl (fun KK hK => ?_) (AllReadyH.nil)
                go_simp
                refine hK.out _ _ trivial (fun hHeld => ?_)
                clear hK KK hHeld
                try simp only [Act.put, List.setIfInBounds_toArray, List.set_cons_zero, List.set_cons_succ]
                refine wpAnyH_done (by kernel_rfl) ?_ _
                have HE := town_end D T B ltw lo lw ho HL.out hxl hxz hat5 T6 t6 o7 b7 ho8 hg8 hat8
                obtain ⟨W9, hW9⟩ : ∃ W9, w8.setCell ⟨tw, 4, none⟩ (.slice (some ⟨g8, 0, none⟩) (L + 1) c8) = W9 := ⟨_, rfl⟩
                rw [hW9] at HE
                try rw [hW9]
                clear hW9 z4 zf8 X8 ho8 hg8 hat8 hlt8 rw7 u4 u4a T7 o7 b7 T6 t6 hW6 y4d ho5 hg5 hat5 hlt5 T D
                go_wp2_with fail
                go_roundw
                case rel => exact ⟨b + 1, by omega, by simp, HE⟩
                case measure => simp [intOf]; omega
          · have h32 : 32 ≤ b := by
              simp [outB7] at ho; omega
            have hb2i : ¬ (b : Int) < 2 := by omega
            have h32i : (32 : Int) ≤ b := by omega
            go_wp2_with (first
              | (at_builtin; refine wpList_append_lies _ rfl _ _ 40 rfl 0 3 i0 (.int .i64 0) 1 8 Tryz.underlying40 hi hz0 hz1 hz2 rfl (by decide) ov L _ rfl (r3.alloc _) ⟨w4.heap.size, 0, none⟩ 1 1 [.int .i64 (b : Nat)] rfl rfl (cell_one7 _ _ _) (by intro u hu; simp at hu; subst hu; rfl) (by decide) (by unfold maxLen; omega) (by omega) (by omega) _ rfl ?_; intro g5 c5 w5 ho5 hg5 hat5 hlt5; have T5 := T.grow1 tl r3 hg5; have z3 : w5.cell? ⟨tw, 3, none⟩ = some ov := by { simp [World.cell?, T5.box] }; have zf : w5.frozen? ⟨tw, 3, none⟩ = false := by { simp [World.frozen?, T5.box] }))
            have hN6 := T.out HL.out D.lt ho5 hg5 hat5
            obtain ⟨W6, hW6⟩ : ∃ W6, w5.setCell ⟨tw, 3, none⟩ (.slice (some ⟨g5, 0, none⟩) (L + 1) c5) = W6 := ⟨_, rfl⟩
            rw [hW6] at hN6
            try rw [hW6]
            obtain ⟨T6, t6⟩ := hN6
            have y4d : W6.drew.cell? ⟨tw, 4, none⟩ = some wv := by
              have : W6.drew.heap[tw]? = _ := T6.box
              simp [World.cell?, this]
            clear z3 zf T5 y3 y4
            refine wp_region_held_drew (S := fun _ => True) (by kernel_rfl) trivial (fun hHeld => ?_)
            clear hHeld
            refine wpAnyH_take (i := 0) (oi := ⟨some 81, .move (.tmp 8), 25, "free.go:45", #[], none⟩) (v := (.pointer (some ⟨tw, 0, none⟩))) rfl (by kernel_rfl) (by kernel_rfl) (by kernel_rfl) (fun _ _ _ h => h) (Or.inl ⟨by rfl, fun _ _ => by rfl⟩) trivial ?_
            simp only [Act.put, List.setIfInBounds_toArray, List.set_cons_zero, List.set_cons_succ]
            refine wpAnyH_take (i := 1) (oi := ⟨some 82, .move (.tmp 8), 25, "free.go:45", #[], none⟩) (v := (.pointer (some ⟨tw, 0, none⟩))) rfl (by kernel_rfl) (by kernel_rfl) (by kernel_rfl) (fun _ _ _ h => h) (Or.inl ⟨by rfl, fun _ _ => by rfl⟩) trivial ?_
            simp only [Act.put, List.setIfInBounds_toArray, List.set_cons_zero, List.set_cons_succ]
            refine wpAnyH_take (i := 2) (oi := ⟨some 83, .nilCheck (.tmp 82), 0, "free.go:45", #[⟨1, .data⟩], none⟩) (v := (.pointer (some ⟨tw, 0, none⟩))) rfl (by kernel_rfl) (by kernel_rfl) (by kernel_rfl) (fun _ _ _ h => h) (Or.inl ⟨by rfl, fun _ _ => by rfl⟩) trivial ?_
            simp only [Act.put, List.setIfInBounds_toArray, List.set_cons_zero, List.set_cons_succ]
            refine wpAnyH_take (i := 3) (oi := ⟨some 84, .fieldAddr 42 (.tmp 83) 4, 0, "free.go:45", #[⟨2, .data⟩], none⟩) (v := (.pointer (some ⟨tw, 4, none⟩))) rfl (by kernel_rfl) (by kernel_rfl) (by kernel_rfl) (fun _ _ _ h => h) (Or.inl ⟨by rfl, fun _ _ => by rfl⟩) trivial ?_
            simp only [Act.put, List.setIfInBounds_toArray, List.set_cons_zero, List.set_cons_succ]
            refine wpAnyH_ready (rs := [4, 5]) (by kernel_rfl) (by simp) ?_
            refine AllReadyH.cons (o := ⟨some 85, .load 33 (.tmp 84), 33, "free.go:45", #[⟨3, .data⟩], none⟩) rfl (fun KK hK => ?_) (AllReadyH.cons (o := ⟨some 86, .call ⟨.value (.func 28), #[.const (.slice none 0 0)], #[56]⟩, 56, "free.go:45", #[], none⟩) rfl (fun KK hK => ?_) (AllReadyH.nil))
            · go_simp
              refine hK.out _ _ trivial (fun hHeld => ?_)
              clear hK KK hHeld
              try simp only [Act.put, List.setIfInBounds_toArray, List.set_cons_zero, List.set_cons_succ]
              refine wpAnyH_ready (rs := [5]) (by kernel_rfl) (by simp) ?_
              refine AllReadyH.cons (o := ⟨some 86, .call ⟨.value (.func 28), #[.const (.slice none 0 0)], #[56]⟩, 56, "free.go:45", #[], none⟩) rfl (fun KK hK => ?_) (AllReadyH.nil)
              go_simp
              refine (block7 none 0 0 [] W6.drew (by omega) (Lies.nil _)).mono ?_
              rintro e w7 ⟨g7, c7, rfl, o7, b7⟩
              replace b7 := Below.fromDrew b7
              have T7 := T6.kp (Kp.below b7)
              have u4 : w7.cell? ⟨tw, 4, none⟩ = some wv := by simp [World.cell?, T7.box]
              have u4a : ∀ o, (w7.alloc o).cell? ⟨tw, 4, none⟩ = some wv := fun o => by
                have := (Below.heap_alloc w7 o tw (heap_lt T7.box)).trans T7.box
                simp [World.cell?, this]
              go_wp2_with fail
              refine hK.out _ _ trivial (fun hHeld => ?_)
              clear hK KK hHeld
              try simp only [Act.put, List.setIfInBounds_toArray, List.set_cons_zero, List.set_cons_succ]
              refine wpAnyH_ready (rs := [6]) (by kernel_rfl) (by simp) ?_
              refine AllReadyH.cons (o := ⟨some 87, .buildSlice 33 1 #[(0, .tmp 86)], 33, "free.go:45", #[⟨5, .data⟩], none⟩) rfl (fun KK hK => ?_) (AllReadyH.nil)
              go_simp
              refine hK.out _ _ trivial (fun hHeld => ?_)
              clear hK KK hHeld
              try simp only [Act.put, List.setIfInBounds_toArray, List.set_cons_zero, List.set_cons_succ]
              refine wpAnyH_ready (rs := [7]) (by kernel_rfl) (by simp) ?_
              refine AllReadyH.cons (o := ⟨some 88, .call ⟨.builtin .append, #[.tmp 85, .tmp 87], #[33, 33]⟩, 33, "free.go:45", #[⟨4, .data⟩, ⟨6, .data⟩, ⟨5, .chain⟩], none⟩) rfl (fun KK hK => ?_) (AllReadyH.nil)
              have rw7 : w7.ownsRow 0 56 1 wv L (xs.map It.val) := by
                have := T7.x.row
                rwa [hxl] at this
              refine step_append_lies _ rfl _ _ 33 rfl 0 56 i1 (.slice none 0 0) 1 24 Tryz.underlying33 ki kz0 kz1 kz2 rfl (by decide) wv L _ rfl (rw7.alloc _) ⟨w7.heap.size, 0, none⟩ 1 1 [.slice (some ⟨g7, 0, none⟩) 512 c7] rfl rfl (cell_one7 _ _ _) (by intro u hu; simp at hu; subst hu; rfl) (by decide) (by unfold maxLen; omega) (by omega) (by omega) _ rfl ?_
              intro g8 c8 w8 ho8 hg8 hat8 hlt8
              have X8 := T7.grow2 hg8
              have z4 : w8.cell? ⟨tw, 4, none⟩ = some wv := by simp [World.cell?, X8]
              have zf8 : w8.frozen? ⟨tw, 4, none⟩ = false := by simp [World.frozen?, X8]
              refine hK.out _ _ trivial (fun hHeld => ?_)
              clear hK KK hHeld
              try simp only [Act.put, List.setIfInBounds_toArray, List.set_cons_zero, List.set_cons_succ]
              refine wpAnyH_take (i := 8) (oi := ⟨some 89, .nilCheck (.tmp 81), 0, "free.go:45", #[⟨0, .data⟩, ⟨0, .phase⟩, ⟨1, .phase⟩, ⟨2, .phase⟩, ⟨3, .phase⟩, ⟨4, .phase⟩, ⟨5, .phase⟩, ⟨6, .phase⟩, ⟨7, .phase⟩], none⟩) (v := (.pointer (some ⟨tw, 0, none⟩))) rfl (by kernel_rfl) (by kernel_rfl) (by kernel_rfl) (fun _ _ _ h => h) (Or.inl ⟨by rfl, fun _ _ => by rfl⟩) trivial ?_
              simp only [Act.put, List.setIfInBounds_toArray, List.set_cons_zero, List.set_cons_succ]
              refine wpAnyH_take (i := 9) (oi := ⟨some 90, .fieldAddr 42 (.tmp 89) 4, 0, "free.go:45", #[⟨8, .data⟩, ⟨0, .phase⟩, ⟨1, .phase⟩, ⟨2, .phase⟩, ⟨3, .phase⟩, ⟨4, .phase⟩, ⟨5, .phase⟩, ⟨6, .phase⟩, ⟨7, .phase⟩], none⟩) (v := (.pointer (some ⟨tw, 4, none⟩))) rfl (by kernel_rfl) (by kernel_rfl) (by kernel_rfl) (fun _ _ _ h => h) (Or.inl ⟨by rfl, fun _ _ => by rfl⟩) trivial ?_
              simp only [Act.put, List.setIfInBounds_toArray, List.set_cons_zero, List.set_cons_succ]
              refine wpAnyH_ready (rs := [10]) (by kernel_rfl) (by simp) ?_
              refine AllReadyH.cons (o := ⟨none, .store 33 (.tmp 90) (.tmp 88), 0, "free.go:45", #[⟨9, .data⟩, ⟨7, .data⟩, ⟨7, .chain⟩, ⟨0, .phase⟩, ⟨1, .phase⟩, ⟨2, .phase⟩, ⟨3, .phase⟩, ⟨4, .phase⟩, ⟨5, .phase⟩, ⟨6, .phase⟩, ⟨7, .phase⟩], none⟩) rfl (fun KK hK => ?_) (AllReadyH.nil)
              go_simp
              refine hK.out _ _ trivial (fun hHeld => ?_)
              clear hK KK hHeld
              try simp only [Act.put, List.setIfInBounds_toArray, List.set_cons_zero, List.set_cons_succ]
              refine wpAnyH_done (by kernel_rfl) ?_ _
              have HE := town_end D T B ltw lo lw ho HL.out hxl hxz hat5 T6 t6 o7 b7 ho8 hg8 hat8
              obtain ⟨W9, hW9⟩ : ∃ W9, w8.setCell ⟨tw, 4, none⟩ (.slice (some ⟨g8, 0, none⟩) (L + 1) c8) = W9 := ⟨_, rfl⟩
              rw [hW9] at HE
              try rw [hW9]
              clear hW9 z4 zf8 X8 ho8 hg8 hat8 hlt8 rw7 u4 u4a T7 o7 b7 T6 t6 hW6 y4d ho5 hg5 hat5 hlt5 T D
              go_wp2_with fail
              go_roundw
              case rel => exact ⟨b + 1, by omega, by simp, HE⟩
              case measure => simp [intOf]; omega
            · go_simp
              refine (block7 none 0 0 [] W6.drew (by omega) (Lies.nil _)).mono ?_
              rintro e w7 ⟨g7, c7, rfl, o7, b7⟩
              replace b7 := Below.fromDrew b7
              have T7 := T6.kp (Kp.below b7)
              have u4 : w7.cell? ⟨tw, 4, none⟩ = some wv := by simp [World.cell?, T7.box]
              have u4a : ∀ o, (w7.alloc o).cell? ⟨tw, 4, none⟩ = some wv := fun o => by
                have := (Below.heap_alloc w7 o tw (heap_lt T7.box)).trans T7.box
                simp [World.cell?, this]
              go_wp2_with fail
              refine hK.out _ _ trivial (fun hHeld => ?_)
              clear hK KK hHeld
              try simp only [Act.put, List.setIfInBounds_toArray, List.set_cons_zero, List.set_cons_succ]
              refine wpAnyH_ready (rs := [4, 6]) (by kernel_rfl) (by simp) ?_
              refine AllReadyH.cons (o := ⟨some 85, .load 33 (.tmp 84), 33, "free.go:45", #[⟨3, .data⟩], none⟩) rfl (fun KK hK => ?_) (AllReadyH.cons (o := ⟨some 87, .buildSlice 33 1 #[(0, .tmp 86)], 33, "free.go:45", #[⟨5, .data⟩], none⟩) rfl (fun KK hK => ?_) (AllReadyH.nil))
              · go_simp
                refine hK.out _ _ trivial (fun hHeld => ?_)
                clear hK KK hHeld
                try simp only [Act.put, List.setIfInBounds_toArray, List.set_cons_zero, List.set_cons_succ]
                refine wpAnyH_ready (rs := [6]) (by kernel_rfl) (by simp) ?_
                refine AllReadyH.cons (o := ⟨some 87, .buildSlice 33 1 #[(0, .tmp 86)], 33, "free.go:45", #[⟨5, .data⟩], none⟩) rfl (fun KK hK => ?_) (AllReadyH.nil)
                go_simp
                refine hK.out _ _ trivial (fun hHeld => ?_)
                clear hK KK hHeld
                try simp only [Act.put, List.setIfInBounds_toArray, List.set_cons_zero, List.set_cons_succ]
                refine wpAnyH_ready (rs := [7]) (by kernel_rfl) (by simp) ?_
                refine AllReadyH.cons (o := ⟨some 88, .call ⟨.builtin .append, #[.tmp 85, .tmp 87], #[33, 33]⟩, 33, "free.go:45", #[⟨4, .data⟩, ⟨6, .data⟩, ⟨5, .chain⟩], none⟩) rfl (fun KK hK => ?_) (AllReadyH.nil)
                have rw7 : w7.ownsRow 0 56 1 wv L (xs.map It.val) := by
                  have := T7.x.row
                  rwa [hxl] at this
                refine step_append_lies _ rfl _ _ 33 rfl 0 56 i1 (.slice none 0 0) 1 24 Tryz.underlying33 ki kz0 kz1 kz2 rfl (by decide) wv L _ rfl (rw7.alloc _) ⟨w7.heap.size, 0, none⟩ 1 1 [.slice (some ⟨g7, 0, none⟩) 512 c7] rfl rfl (cell_one7 _ _ _) (by intro u hu; simp at hu; subst hu; rfl) (by decide) (by unfold maxLen; omega) (by omega) (by omega) _ rfl ?_
                intro g8 c8 w8 ho8 hg8 hat8 hlt8
                have X8 := T7.grow2 hg8
                have z4 : w8.cell? ⟨tw, 4, none⟩ = some wv := by simp [World.cell?, X8]
                have zf8 : w8.frozen? ⟨tw, 4, none⟩ = false := by simp [World.frozen?, X8]
                refine hK.out _ _ trivial (fun hHeld => ?_)
                clear hK KK hHeld
                try simp only [Act.put, List.setIfInBounds_toArray, List.set_cons_zero, List.set_cons_succ]
                refine wpAnyH_take (i := 8) (oi := ⟨some 89, .nilCheck (.tmp 81), 0, "free.go:45", #[⟨0, .data⟩, ⟨0, .phase⟩, ⟨1, .phase⟩, ⟨2, .phase⟩, ⟨3, .phase⟩, ⟨4, .phase⟩, ⟨5, .phase⟩, ⟨6, .phase⟩, ⟨7, .phase⟩], none⟩) (v := (.pointer (some ⟨tw, 0, none⟩))) rfl (by kernel_rfl) (by kernel_rfl) (by kernel_rfl) (fun _ _ _ h => h) (Or.inl ⟨by rfl, fun _ _ => by rfl⟩) trivial ?_
                simp only [Act.put, List.setIfInBounds_toArray, List.set_cons_zero, List.set_cons_succ]
                refine wpAnyH_take (i := 9) (oi := ⟨some 90, .fieldAddr 42 (.tmp 89) 4, 0, "free.go:45", #[⟨8, .data⟩, ⟨0, .phase⟩, ⟨1, .phase⟩, ⟨2, .phase⟩, ⟨3, .phase⟩, ⟨4, .phase⟩, ⟨5, .phase⟩, ⟨6, .phase⟩, ⟨7, .phase⟩], none⟩) (v := (.pointer (some ⟨tw, 4, none⟩))) rfl (by kernel_rfl) (by kernel_rfl) (by kernel_rfl) (fun _ _ _ h => h) (Or.inl ⟨by rfl, fun _ _ => by rfl⟩) trivial ?_
                simp only [Act.put, List.setIfInBounds_toArray, List.set_cons_zero, List.set_cons_succ]
                refine wpAnyH_ready (rs := [10]) (by kernel_rfl) (by simp) ?_
                refine AllReadyH.cons (o := ⟨none, .store 33 (.tmp 90) (.tmp 88), 0, "free.go:45", #[⟨9, .data⟩, ⟨7, .data⟩, ⟨7, .chain⟩, ⟨0, .phase⟩, ⟨1, .phase⟩, ⟨2, .phase⟩, ⟨3, .phase⟩, ⟨4, .phase⟩, ⟨5, .phase⟩, ⟨6, .phase⟩, ⟨7, .phase⟩], none⟩) rfl (fun KK hK => ?_) (AllReadyH.nil)
                go_simp
                refine hK.out _ _ trivial (fun hHeld => ?_)
                clear hK KK hHeld
                try simp only [Act.put, List.setIfInBounds_toArray, List.set_cons_zero, List.set_cons_succ]
                refine wpAnyH_done (by kernel_rfl) ?_ _
                have HE := town_end D T B ltw lo lw ho HL.out hxl hxz hat5 T6 t6 o7 b7 ho8 hg8 hat8
                obtain ⟨W9, hW9⟩ : ∃ W9, w8.setCell ⟨tw, 4, none⟩ (.slice (some ⟨g8, 0, none⟩) (L + 1) c8) = W9 := ⟨_, rfl⟩
                rw [hW9] at HE
                try rw [hW9]
                clear hW9 z4 zf8 X8 ho8 hg8 hat8 hlt8 rw7 u4 u4a T7 o7 b7 T6 t6 hW6 y4d ho5 hg5 hat5 hlt5 T D
                go_wp2_with fail
                go_roundw
                case rel => exact ⟨b + 1, by omega, by simp, HE⟩
                case measure => simp [intOf]; omega
              · go_simp
                refine hK.out _ _ trivial (fun hHeld => ?_)
                clear hK KK hHeld
                try simp only [Act.put, List.setIfInBounds_toArray, List.set_cons_zero, List.set_cons_succ]
                refine wpAnyH_ready (rs := [4]) (by kernel_rfl) (by simp) ?_
                refine AllReadyH.cons (o := ⟨some 85, .load 33 (.tmp 84), 33, "free.go:45", #[⟨3, .data⟩], none⟩) rfl (fun KK hK => ?_) (AllReadyH.nil)
                go_simp
                refine hK.out _ _ trivial (fun hHeld => ?_)
                clear hK KK hHeld
                try simp only [Act.put, List.setIfInBounds_toArray, List.set_cons_zero, List.set_cons_succ]
                refine wpAnyH_ready (rs := [7]) (by kernel_rfl) (by simp) ?_
                refine AllReadyH.cons (o := ⟨some 88, .call ⟨.builtin .append, #[.tmp 85, .tmp 87], #[33, 33]⟩, 33, "free.go:45", #[⟨4, .data⟩, ⟨6, .data⟩, ⟨5, .chain⟩], none⟩) rfl (fun KK hK => ?_) (AllReadyH.nil)
                have rw7 : w7.ownsRow 0 56 1 wv L (xs.map It.val) := by
                  have := T7.x.row
                  rwa [hxl] at this
                refine step_append_lies _ rfl _ _ 33 rfl 0 56 i1 (.slice none 0 0) 1 24 Tryz.underlying33 ki kz0 kz1 kz2 rfl (by decide) wv L _ rfl (rw7.alloc _) ⟨w7.heap.size, 0, none⟩ 1 1 [.slice (some ⟨g7, 0, none⟩) 512 c7] rfl rfl (cell_one7 _ _ _) (by intro u hu; simp at hu; subst hu; rfl) (by decide) (by unfold maxLen; omega) (by omega) (by omega) _ rfl ?_
                intro g8 c8 w8 ho8 hg8 hat8 hlt8
                have X8 := T7.grow2 hg8
                have z4 : w8.cell? ⟨tw, 4, none⟩ = some wv := by simp [World.cell?, X8]
                have zf8 : w8.frozen? ⟨tw, 4, none⟩ = false := by simp [World.frozen?, X8]
                refine hK.out _ _ trivial (fun hHeld => ?_)
                clear hK KK hHeld
                try simp only [Act.put, List.setIfInBounds_toArray, List.set_cons_zero, List.set_cons_succ]
                refine wpAnyH_take (i := 8) (oi := ⟨some 89, .nilCheck (.tmp 81), 0, "free.go:45", #[⟨0, .data⟩, ⟨0, .phase⟩, ⟨1, .phase⟩, ⟨2, .phase⟩, ⟨3, .phase⟩, ⟨4, .phase⟩, ⟨5, .phase⟩, ⟨6, .phase⟩, ⟨7, .phase⟩], none⟩) (v := (.pointer (some ⟨tw, 0, none⟩))) rfl (by kernel_rfl) (by kernel_rfl) (by kernel_rfl) (fun _ _ _ h => h) (Or.inl ⟨by rfl, fun _ _ => by rfl⟩) trivial ?_
                simp only [Act.put, List.setIfInBounds_toArray, List.set_cons_zero, List.set_cons_succ]
                refine wpAnyH_take (i := 9) (oi := ⟨some 90, .fieldAddr 42 (.tmp 89) 4, 0, "free.go:45", #[⟨8, .data⟩, ⟨0, .phase⟩, ⟨1, .phase⟩, ⟨2, .phase⟩, ⟨3, .phase⟩, ⟨4, .phase⟩, ⟨5, .phase⟩, ⟨6, .phase⟩, ⟨7, .phase⟩], none⟩) (v := (.pointer (some ⟨tw, 4, none⟩))) rfl (by kernel_rfl) (by kernel_rfl) (by kernel_rfl) (fun _ _ _ h => h) (Or.inl ⟨by rfl, fun _ _ => by rfl⟩) trivial ?_
                simp only [Act.put, List.setIfInBounds_toArray, List.set_cons_zero, List.set_cons_succ]
                refine wpAnyH_ready (rs := [10]) (by kernel_rfl) (by simp) ?_
                refine AllReadyH.cons (o := ⟨none, .store 33 (.tmp 90) (.tmp 88), 0, "free.go:45", #[⟨9, .data⟩, ⟨7, .data⟩, ⟨7, .chain⟩, ⟨0, .phase⟩, ⟨1, .phase⟩, ⟨2, .phase⟩, ⟨3, .phase⟩, ⟨4, .phase⟩, ⟨5, .phase⟩, ⟨6, .phase⟩, ⟨7, .phase⟩], none⟩) rfl (fun KK hK => ?_) (AllReadyH.nil)
                go_simp
                refine hK.out _ _ trivial (fun hHeld => ?_)
                clear hK KK hHeld
                try simp only [Act.put, List.setIfInBounds_toArray, List.set_cons_zero, List.set_cons_succ]
                refine wpAnyH_done (by kernel_rfl) ?_ _
                have HE := town_end D T B ltw lo lw ho HL.out hxl hxz hat5 T6 t6 o7 b7 ho8 hg8 hat8
                obtain ⟨W9, hW9⟩ : ∃ W9, w8.setCell ⟨tw, 4, none⟩ (.slice (some ⟨g8, 0, none⟩) (L + 1) c8) = W9 := ⟨_, rfl⟩
                rw [hW9] at HE
                try rw [hW9]
                clear hW9 z4 zf8 X8 ho8 hg8 hat8 hlt8 rw7 u4 u4a T7 o7 b7 T6 t6 hW6 y4d ho5 hg5 hat5 hlt5 T D
                go_wp2_with fail
                go_roundw
                case rel => exact ⟨b + 1, by omega, by simp, HE⟩
                case measure => simp [intOf]; omega
        · have ho2 : ¬ b < 2 ∧ b < 32 := by
            simp [outB7] at ho; omega
          have hb2i : ¬ (b : Int) < 2 := by omega
          have h32i : ¬ (32 : Int) ≤ b := by omega
          have HE : TR w G tw db (b + 1) w4 := by
            have e : outs (b + 1) = outs b := by rw [outs_succ]; simp [ho]
            exact ⟨ov, wv, xs, D, by rw [e]; exact T, by rw [e]; exact hxl, hxz, lo, lw, B⟩
          clear D T hxl
          go_wp2_with fail
          go_roundw
          case rel => exact ⟨b + 1, by omega, by simp, HE⟩
          case measure => simp [intOf]; omega
      · have hb40 : b = 40 := by omega
        subst hb40
        have HT : Hid (Dev w4 db 0 F40 40 30 G ∧ Tn w4 G tw db ov wv (outs 40) xs ∧ xs.length = 10) := ⟨D, T, by rw [hxl, outs_40]; rfl⟩
        clear D T hxl
        go_wp2_with fail
        refine (num7 0 w4).mono ?_
        rintro e w5 ⟨rfl, rfl⟩
        go_wp2_with fail
        obtain ⟨Dz, Tz, lz⟩ := HT.out
        refine bodyPost_ret (results_tmp2 rfl _ _ _) rfl ?_
        exact ⟨tw, db, 30, G, ov, wv, xs, rfl, Dz, by omega, fun i hi => (f3 i hi).1, Tz, lz, hxz, ltw, lo, B⟩
  by_cases c3 : sz < 27
  · as_aux_lemma =>
    go_enter Tryz.func10, Tryz.ntmps10
    go_wp2_with fail
    refine (new_good 40 w (by omega) (by omega)).mono ?_
    rintro e w1 ⟨db, rfl, D1, b1⟩
    replace D1 : Dev w1 db 0 S40 40 0 (grow (fun _ => False) w w1) := D1
    obtain ⟨W2, hW2⟩ : ∃ W, w1.alloc (.cells #[.pointer (some ⟨db, 0, none⟩), .int .i64 2, .int .i64 30, .slice none 0 0, .slice none 0 0] 42) = W := ⟨_, rfl⟩
    have b2 : Below w1.heap.size w1 W2 := by rw [← hW2]; exact (Below.refl _ w1).alloc (Nat.le_refl _) _
    have s2 : W2.heap.size = w1.heap.size + 1 := by rw [← hW2]; simp
    have X2 : W2.heap[w1.heap.size]? = some (.cells #[.pointer (some ⟨db, 0, none⟩), .int .i64 2, .int .i64 30, .slice none 0 0, .slice none 0 0] 42) := by rw [← hW2]; exact (MapKept.heap_alloc w1 _).1
    have D2 := D1.below b2
    obtain ⟨tw, htw⟩ : ∃ tw, w1.heap.size = tw := ⟨_, rfl⟩
    rw [htw] at X2
    have q0 : W2.cell? ⟨tw, 0, none⟩ = some (.pointer (some ⟨db, 0, none⟩)) := by simp [World.cell?, X2]
    go_wp2_with fail
    try rw [hW2]
    try rw [htw]
    refine (format40 D2 (by omega)).mono ?_
    rintro e w3 ⟨rfl, D3, t3⟩
    have sb1 := b1.size
    have f1 : ∀ i, grow (fun _ => False) w w1 i → w.heap.size ≤ i ∧ i < w1.heap.size := fun i hi => hi.elim False.elim (fun r => r)
    have X3 := (t3.block tw (heap_lt X2) (fun r => by have := f1 tw r; omega)).trans X2
    have b02 : Below w.heap.size w W2 := b1.trans (b2.mono b1.size)
    have B3 : Below w.heap.size w w3 := b02.trans (t3.below (fun i r => (f1 i r).1) b02.size)
    have f3 : ∀ i, grow (grow (fun _ => False) w w1) W2 w3 i → w.heap.size ≤ i ∧ i ≠ tw := fun i hi => hi.elim (fun r => ⟨(f1 i r).1, by have := f1 i r; omega⟩) (fun r => ⟨by omega, by omega⟩)
    generalize grow (grow (fun _ => False) w w1) W2 w3 = G at D3 f3
    have hGl := D3.lt
    have T3 : Tn w3 G tw db (.slice none 0 0) (.slice none 0 0) (outs 0) [] := ⟨X3, ⟨⟨rfl, Or.inl ⟨rfl, rfl⟩⟩, (fun b hb => by cases hb)⟩, ⟨⟨rfl, Or.inl ⟨rfl, rfl⟩⟩, (fun b hb => by cases hb), (fun x hx => by cases hx)⟩, fun r => (f3 tw r).2 rfl⟩
    have ltw : w.heap.size ≤ tw := by omega
    clear D1 D2 t3 q0 X2 X3 hW2 f1
    go_wp2_with fail
    go_loopw [10] (fun i wr => ∃ (b : Nat), b ≤ 40 ∧ i = .int .i64 b ∧ TR w G tw db b wr) (fun i _ => 40 - (intOf i).toNat)
    case atStart => exact ⟨0, by omega, rfl, _, _, [], D3, T3, rfl, (fun x hx => by cases hx), (fun c hc => by cases hc), (fun c hc => by cases hc), B3⟩
    case round =>
      clear D3 T3 B3
      obtain ⟨b, hb, rfl, ov, wv, xs, D, T, hxl, hxz, lo, lw, B⟩ := hrel
      obtain ⟨w4, hw4⟩ : ∃ w4, w4 = wr := ⟨wr, rfl⟩
      subst hw4
      by_cases hlt : b < 40
      · have hbi : (b : Int) < 40 := by omega
        by_cases ho : outB7 b = true
        · have y3 : w4.cell? ⟨tw, 3, none⟩ = some ov := by simp [World.cell?, T.box]
          have y4 : w4.cell? ⟨tw, 4, none⟩ = some wv := by simp [World.cell?, T.box]
          have r3 := T.o.row
          have ol := outs_le b
          have s4 := B.size
          have tl := heap_lt T.box
          have hD4 := D.lt
          obtain ⟨L, hL⟩ : ∃ L, (outs b).length = L := ⟨_, rfl⟩
          have HL : Hid ((outs b).length = L) := hL
          rw [hL] at r3 ol hxl
          clear hL
          by_cases hb2 : b < 2
          · have hb2i : (b : Int) < 2 := by omega
            go_wp2_with (first
              | (at_builtin; refine wpList_append_lies _ rfl _ _ 40 rfl 0 3 i0 (.int .i64 0) 1 8 Tryz.underlying40 hi hz0 hz1 hz2 rfl (by decide) ov L _ rfl (r3.alloc _) ⟨w4.heap.size, 0, none⟩ 1 1 [.int .i64 (b : Nat)] rfl rfl (cell_one7 _ _ _) (by intro u hu; simp at hu; subst hu; rfl) (by decide) (by unfold maxLen; omega) (by omega) (by omega) _ rfl ?_; intro g5 c5 w5 ho5 hg5 hat5 hlt5; have T5 := T.grow1 tl r3 hg5; have z3 : w5.cell? ⟨tw, 3, none⟩ = some ov := by { simp [World.cell?, T5.box] }; have zf : w5.frozen? ⟨tw, 3, none⟩ = false := by { simp [World.frozen?, T5.box] }))
            have hN6 := T.out HL.out D.lt ho5 hg5 hat5
            obtain ⟨W6, hW6⟩ : ∃ W6, w5.setCell ⟨tw, 3, none⟩ (.slice (some ⟨g5, 0, none⟩) (L + 1) c5) = W6 := ⟨_, rfl⟩
            rw [hW6] at hN6
            try rw [hW6]
            obtain ⟨T6, t6⟩ := hN6
            have y4d : W6.drew.cell? ⟨tw, 4, none⟩ = some wv := by
              have : W6.drew.heap[tw]? = _ := T6.box
              simp [World.cell?, this]
            clear z3 zf T5 y3 y4
            refine wp_region_held_drew (S := fun _ => True) (by kernel_rfl) trivial (fun hHeld => ?_)
            clear hHeld
            refine wpAnyH_take (i := 0) (oi := ⟨some 81, .move (.tmp 8), 25, "free.go:45", #[], none⟩) (v := (.pointer (some ⟨tw, 0, none⟩))) rfl (by kernel_rfl) (by kernel_rfl) (by kernel_rfl) (fun _ _ _ h => h) (Or.inl ⟨by rfl, fun _ _ => by rfl⟩) trivial ?_
            simp only [Act.put, List.setIfInBounds_toArray, List.set_cons_zero, List.set_cons_succ]
            refine wpAnyH_take (i := 1) (oi := ⟨some 82, .move (.tmp 8), 25, "free.go:45", #[], none⟩) (v := (.pointer (some ⟨tw, 0, none⟩))) rfl (by kernel_rfl) (by kernel_rfl) (by kernel_rfl) (fun _ _ _ h => h) (Or.inl ⟨by rfl, fun _ _ => by rfl⟩) trivial ?_
            simp only [Act.put, List.setIfInBounds_toArray, List.set_cons_zero, List.set_cons_succ]
            refine wpAnyH_take (i := 2) (oi := ⟨some 83, .nilCheck (.tmp 82), 0, "free.go:45", #[⟨1, .data⟩], none⟩) (v := (.pointer (some ⟨tw, 0, none⟩))) rfl (by kernel_rfl) (by kernel_rfl) (by kernel_rfl) (fun _ _ _ h => h) (Or.inl ⟨by rfl, fun _ _ => by rfl⟩) trivial ?_
            simp only [Act.put, List.setIfInBounds_toArray, List.set_cons_zero, List.set_cons_succ]
            refine wpAnyH_take (i := 3) (oi := ⟨some 84, .fieldAddr 42 (.tmp 83) 4, 0, "free.go:45", #[⟨2, .data⟩], none⟩) (v := (.pointer (some ⟨tw, 4, none⟩))) rfl (by kernel_rfl) (by kernel_rfl) (by kernel_rfl) (fun _ _ _ h => h) (Or.inl ⟨by rfl, fun _ _ => by rfl⟩) trivial ?_
            simp only [Act.put, List.setIfInBounds_toArray, List.set_cons_zero, List.set_cons_succ]
            refine wpAnyH_ready (rs := [4, 5]) (by kernel_rfl) (by simp) ?_
            refine AllReadyH.cons (o := ⟨some 85, .load 33 (.tmp 84), 33, "free.go:45", #[⟨3, .data⟩], none⟩) rfl (fun KK hK => ?_) (AllReadyH.cons (o := ⟨some 86, .call ⟨.value (.func 28), #[.const (.slice none 0 0)], #[56]⟩, 56, "free.go:45", #[], none⟩) rfl (fun KK hK => ?_) (AllReadyH.nil))
            · go_simp
              refine hK.out _ _ trivial (fun hHeld => ?_)
              clear hK KK hHeld
              try simp only [Act.put, List.setIfInBounds_toArray, List.set_cons_zero, List.set_cons_succ]
              refine wpAnyH_ready (rs := [5]) (by kernel_rfl) (by simp) ?_
              refine AllReadyH.cons (o := ⟨some 86, .call ⟨.value (.func 28), #[.const (.slice none 0 0)], #[56]⟩, 56, "free.go:45", #[], none⟩) rfl (fun KK hK => ?_) (AllReadyH.nil)
              go_simp
              refine (block7 none 0 0 [] W6.drew (by omega) (Lies.nil _)).mono ?_
              rintro e w7 ⟨g7, c7, rfl, o7, b7⟩
              replace b7 := Below.fromDrew b7
              have T7 := T6.kp (Kp.below b7)
              have u4 : w7.cell? ⟨tw, 4, none⟩ = some wv := by simp [World.cell?, T7.box]
              have u4a : ∀ o, (w7.alloc o).cell? ⟨tw, 4, none⟩ = some wv := fun o => by
                have := (Below.heap_alloc w7 o tw (heap_lt T7.box)).trans T7.box
                simp [World.cell?, this]
              go_wp2_with fail
              refine hK.out _ _ trivial (fun hHeld => ?_)
              clear hK KK hHeld
              try simp only [Act.put, List.setIfInBounds_toArray, List.set_cons_zero, List.set_cons_succ]
              refine wpAnyH_ready (rs := [6]) (by kernel_rfl) (by simp) ?_
              refine AllReadyH.cons (o := ⟨some 87, .buildSlice 33 1 #[(0, .tmp 86)], 33, "free.go:45", #[⟨5, .data⟩], none⟩) rfl (fun KK hK => ?_) (AllReadyH.nil)
              go_simp
              refine hK.out _ _ trivial (fun hHeld => ?_)
              clear hK KK hHeld
              try simp only [Act.put, List.setIfInBounds_toArray, List.set_cons_zero, List.set_cons_succ]
              refine wpAnyH_ready (rs := [7]) (by kernel_rfl) (by simp) ?_
              refine AllReadyH.cons (o := ⟨some 88, .call ⟨.builtin .append, #[.tmp 85, .tmp 87], #[33, 33]⟩, 33, "free.go:45", #[⟨4, .data⟩, ⟨6, .data⟩, ⟨5, .chain⟩], none⟩) rfl (fun KK hK => ?_) (AllReadyH.nil)
              have rw7 : w7.ownsRow 0 56 1 wv L (xs.map It.val) := by
                have := T7.x.row
                rwa [hxl] at this
              refine step_append_lies _ rfl _ _ 33 rfl 0 56 i1 (.slice none 0 0) 1 24 Tryz.underlying33 ki kz0 kz1 kz2 rfl (by decide) wv L _ rfl (rw7.alloc _) ⟨w7.heap.size, 0, none⟩ 1 1 [.slice (some ⟨g7, 0, none⟩) 512 c7] rfl rfl (cell_one7 _ _ _) (by intro u hu; simp at hu; subst hu; rfl) (by decide) (by unfold maxLen; omega) (by omega) (by omega) _ rfl ?_
              intro g8 c8 w8 ho8 hg8 hat8 hlt8
              have X8 := T7.grow2 hg8
              have z4 : w8.cell? ⟨tw, 4, none⟩ = some wv := by simp [World.cell?, X8]
              have zf8 : w8.frozen? ⟨tw, 4, none⟩ = false := by simp [World.frozen?, X8]
              refine hK.out _ _ trivial (fun hHeld => ?_)
              clear hK KK hHeld
              try simp only [Act.put, List.setIfInBounds_toArray, List.set_cons_zero, List.set_cons_succ]
              refine wpAnyH_take (i := 8) (oi := ⟨some 89, .nilCheck (.tmp 81), 0, "free.go:45", #[⟨0, .data⟩, ⟨0, .phase⟩, ⟨1, .phase⟩, ⟨2, .phase⟩, ⟨3, .phase⟩, ⟨4, .phase⟩, ⟨5, .phase⟩, ⟨6, .phase⟩, ⟨7, .phase⟩], none⟩) (v := (.pointer (some ⟨tw, 0, none⟩))) rfl (by kernel_rfl) (by kernel_rfl) (by kernel_rfl) (fun _ _ _ h => h) (Or.inl ⟨by rfl, fun _ _ => by rfl⟩) trivial ?_
              simp only [Act.put, List.setIfInBounds_toArray, List.set_cons_zero, List.set_cons_succ]
              refine wpAnyH_take (i := 9) (oi := ⟨some 90, .fieldAddr 42 (.tmp 89) 4, 0, "free.go:45", #[⟨8, .data⟩, ⟨0, .phase⟩, ⟨1, .phase⟩, ⟨2, .phase⟩, ⟨3, .phase⟩, ⟨4, .phase⟩, ⟨5, .phase⟩, ⟨6, .phase⟩, ⟨7, .phase⟩], none⟩) (v := (.pointer (some ⟨tw, 4, none⟩))) rfl (by kernel_rfl) (by kernel_rfl) (by kernel_rfl) (fun _ _ _ h => h) (Or.inl ⟨by rfl, fun _ _ => by rfl⟩) trivial ?_
              simp only [Act.put, List.setIfInBounds_toArray, List.set_cons_zero, List.set_cons_succ]
              refine wpAnyH_ready (rs := [10]) (by kernel_rfl) (by simp) ?_
              refine AllReadyH.cons (o := ⟨none, .store 33 (.tmp 90) (.tmp 88), 0, "free.go:45", #[⟨9, .data⟩, ⟨7, .data⟩, ⟨7, .chain⟩, ⟨0, .phase⟩, ⟨1, .phase⟩, ⟨2, .phase⟩, ⟨3, .phase⟩, ⟨4, .phase⟩, ⟨5, .phase⟩, ⟨6, .phase⟩, ⟨7, .phase⟩], none⟩) rfl (fun KK hK => ?_) (AllReadyH.nil)
              go_simp
              refine hK.out _ _ trivial (fun hHeld => ?_)
              clear hK KK hHeld
              try simp only [Act.put, List.setIfInBounds_toArray, List.set_cons_zero, List.set_cons_succ]
              refine wpAnyH_done (by kernel_rfl) ?_ _
              have HE := town_end D T B ltw lo lw ho HL.out hxl hxz hat5 T6 t6 o7 b7 ho8 hg8 hat8
              obtain ⟨W9, hW9⟩ : ∃ W9, w8.setCell ⟨tw, 4, none⟩ (.slice (some ⟨g8, 0, none⟩) (L + 1) c8) = W9 := ⟨_, rfl⟩
              rw [hW9] at HE
              try rw [hW9]
              clear hW9 z4 zf8 X8 ho8 hg8 hat8 hlt8 rw7 u4 u4a T7 o7 b7 T6 t6 hW6 y4d ho5 hg5 hat5 hlt5 T D
              go_wp2_with fail
              go_roundw
              case rel => exact ⟨b + 1, by omega, by simp, HE⟩
              case measure => simp [intOf]; omega
            · go_simp
              refine (block7 none 0 0 [] W6.drew (by omega) (Lies.nil _)).mono ?_
              rintro e w7 ⟨g7, c7, rfl, o7, b7⟩
              replace b7 := Below.fromDrew b7
              have T7 := T6.kp (Kp.below b7)
              have u4 : w7.cell? ⟨tw, 4, none⟩ = some wv := by simp [World.cell?, T7.box]
              have u4a : ∀ o, (w7.alloc o).cell? ⟨tw, 4, none⟩ = some wv := fun o => by
                have := (Below.heap_alloc w7 o tw (heap_lt T7.box)).trans T7.box
                simp [World.cell?, this]
              go_wp2_with fail
              refine hK.out _ _ trivial (fun hHeld => ?_)
              clear hK KK hHeld
              try simp only [Act.put, List.setIfInBounds_toArray, List.set_cons_zero, List.set_cons_succ]
              refine wpAnyH_ready (rs := [4, 6]) (by kernel_rfl) (by simp) ?_
              refine AllReadyH.cons (o := ⟨some 85, .load 33 (.tmp 84), 33, "free.go:45", #[⟨3, .data⟩], none⟩) rfl (fun KK hK => ?_) (AllReadyH.cons (o := ⟨some 87, .buildSlice 33 1 #[(0, .tmp 86)], 33, "free.go:45", #[⟨5, .data⟩], none⟩) rfl (fun KK hK => ?_) (AllReadyH.nil))
              · go_simp
                refine hK.out _ _ trivial (fun hHeld => ?_)
                clear hK KK hHeld
                try simp only [Act.put, List.setIfInBounds_toArray, List.set_cons_zero, List.set_cons_succ]
                refine wpAnyH_ready (rs := [6]) (by kernel_rfl) (by simp) ?_
                refine AllReadyH.cons (o := ⟨some 87, .buildSlice 33 1 #[(0, .tmp 86)], 33, "free.go:45", #[⟨5, .data⟩], none⟩) rfl (fun KK hK => ?_) (AllReadyH.nil)
                go_simp
                refine hK.out _ _ trivial (fun hHeld => ?_)
                clear hK KK hHeld
                try simp only [Act.put, List.setIfInBounds_toArray, List.set_cons_zero, List.set_cons_succ]
                refine wpAnyH_ready (rs := [7]) (by kernel_rfl) (by simp) ?_
                refine AllReadyH.cons (o := ⟨some 88, .call ⟨.builtin .append, #[.tmp 85, .tmp 87], #[33, 33]⟩, 33, "free.go:45", #[⟨4, .data⟩, ⟨6, .data⟩, ⟨5, .chain⟩], none⟩) rfl (fun KK hK => ?_) (AllReadyH.nil)
                have rw7 : w7.ownsRow 0 56 1 wv L (xs.map It.val) := by
                  have := T7.x.row
                  rwa [hxl] at this
                refine step_append_lies _ rfl _ _ 33 rfl 0 56 i1 (.slice none 0 0) 1 24 Tryz.underlying33 ki kz0 kz1 kz2 rfl (by decide) wv L _ rfl (rw7.alloc _) ⟨w7.heap.size, 0, none⟩ 1 1 [.slice (some ⟨g7, 0, none⟩) 512 c7] rfl rfl (cell_one7 _ _ _) (by intro u hu; simp at hu; subst hu; rfl) (by decide) (by unfold maxLen; omega) (by omega) (by omega) _ rfl ?_
                intro g8 c8 w8 ho8 hg8 hat8 hlt8
                have X8 := T7.grow2 hg8
                have z4 : w8.cell? ⟨tw, 4, none⟩ = some wv := by simp [World.cell?, X8]
                have zf8 : w8.frozen? ⟨tw, 4, none⟩ = false := by simp [World.frozen?, X8]
                refine hK.out _ _ trivial (fun hHeld => ?_)
                clear hK KK hHeld
                try simp only [Act.put, List.setIfInBounds_toArray, List.set_cons_zero, List.set_cons_succ]
                refine wpAnyH_take (i := 8) (oi := ⟨some 89, .nilCheck (.tmp 81), 0, "free.go:45", #[⟨0, .data⟩, ⟨0, .phase⟩, ⟨1, .phase⟩, ⟨2, .phase⟩, ⟨3, .phase⟩, ⟨4, .phase⟩, ⟨5, .phase⟩, ⟨6, .phase⟩, ⟨7, .phase⟩], none⟩) (v := (.pointer (some ⟨tw, 0, none⟩))) rfl (by kernel_rfl) (by kernel_rfl) (by kernel_rfl) (fun _ _ _ h => h) (Or.inl ⟨by rfl, fun _ _ => by rfl⟩) trivial ?_
                simp only [Act.put, List.setIfInBounds_toArray, List.set_cons_zero, List.set_cons_succ]
                refine wpAnyH_take (i := 9) (oi := ⟨some 90, .fieldAddr 42 (.tmp 89) 4, 0, "free.go:45", #[⟨8, .data⟩, ⟨0, .phase⟩, ⟨1, .phase⟩, ⟨2, .phase⟩, ⟨3, .phase⟩, ⟨4, .phase⟩, ⟨5, .phase⟩, ⟨6, .phase⟩, ⟨7, .phase⟩], none⟩) (v := (.pointer (some ⟨tw, 4, none⟩))) rfl (by kernel_rfl) (by kernel_rfl) (by kernel_rfl) (fun _ _ _ h => h) (Or.inl ⟨by rfl, fun _ _ => by rfl⟩) trivial ?_
                simp only [Act.put, List.setIfInBounds_toArray, List.set_cons_zero, List.set_cons_succ]
                refine wpAnyH_ready (rs := [10]) (by kernel_rfl) (by simp) ?_
                refine AllReadyH.cons (o := ⟨none, .store 33 (.tmp 90) (.tmp 88), 0, "free.go:45", #[⟨9, .data⟩, ⟨7, .data⟩, ⟨7, .chain⟩, ⟨0, .phase⟩, ⟨1, .phase⟩, ⟨2, .phase⟩, ⟨3, .phase⟩, ⟨4, .phase⟩, ⟨5, .phase⟩, ⟨6, .phase⟩, ⟨7, .phase⟩], none⟩) rfl (fun KK hK => ?_) (AllReadyH.nil)
                go_simp
                refine hK.out _ _ trivial (fun hHeld => ?_)
                clear hK KK hHeld
                try simp only [Act.put, List.setIfInBounds_toArray, List.set_cons_zero, List.set_cons_succ]
                refine wpAnyH_done (by kernel_rfl) ?_ _
                have HE := town_end D T B ltw lo lw ho HL.out hxl hxz hat5 T6 t6 o7 b7 ho8 hg8 hat8
                obtain ⟨W9, hW9⟩ : ∃ W9, w8.setCell ⟨tw, 4, none⟩ (.slice (some ⟨g8, 0, none⟩) (L + 1) c8) = W9 := ⟨_, rfl⟩
                rw [hW9] at HE
                try rw [hW9]
                clear hW9 z4 zf8 X8 ho8 hg8 hat8 hlt8 rw7 u4 u4a T7 o7 b7 T6 t6 hW6 y4d ho5 hg5 hat5 hlt5 T D
                go_wp2_with fail
                go_roundw
                case rel => exact ⟨b + 1, by omega, by simp, HE⟩
                case measure => simp [intOf]; omega
              · go_simp
                refine hK.out _ _ trivial (fun hHeld => ?_)
                clear hK KK hHeld
                try simp only [Act.put, List.setIfInBounds_toArray, List.set_cons_zero, List.set_cons_succ]
                refine wpAnyH_ready (rs := [4]) (by kernel_rfl) (by simp) ?_
                refine AllReadyH.cons (o := ⟨some 85, .load 33 (.tmp 84), 33, "free.go:45", #[⟨3, .data⟩], none⟩) rfl (fun KK hK => ?_) (AllReadyH.nil)
                go_simp
                refine hK.out _ _ trivial (fun hHeld => ?_)
                clear hK KK hHeld
                try simp only [Act.put, List.setIfInBounds_toArray, List.set_cons_zero, List.set_cons_succ]
                refine wpAnyH_ready (rs := [7]) (by kernel_rfl) (by simp) ?_
                refine AllReadyH.cons (o := ⟨some 88, .call ⟨.builtin .append, #[.tmp 85, .tmp 87], #[33, 33]⟩, 33, "free.go:45", #[⟨4, .data⟩, ⟨6, .data⟩, ⟨5, .chain⟩], none⟩) rfl (fun KK hK => ?_) (AllReadyH.nil)
                have rw7 : w7.ownsRow 0 56 1 wv L (xs.map It.val) := by
                  have := T7.x.row
                  rwa [hxl] at this
                refine step_append_lies _ rfl _ _ 33 rfl 0 56 i1 (.slice none 0 0) 1 24 Tryz.underlying33 ki kz0 kz1 kz2 rfl (by decide) wv L _ rfl (rw7.alloc _) ⟨w7.heap.size, 0, none⟩ 1 1 [.slice (some ⟨g7, 0, none⟩) 512 c7] rfl rfl (cell_one7 _ _ _) (by intro u hu; simp at hu; subst hu; rfl) (by decide) (by unfold maxLen; omega) (by omega) (by omega) _ rfl ?_
                intro g8 c8 w8 ho8 hg8 hat8 hlt8
                have X8 := T7.grow2 hg8
                have z4 : w8.cell? ⟨tw, 4, none⟩ = some wv := by simp [World.cell?, X8]
                have zf8 : w8.frozen? ⟨tw, 4, none⟩ = false := by simp [World.frozen?, X8]
                refine hK.out _ _ trivial (fun hHeld => ?_)
                clear hK KK hHeld
                try simp only [Act.put, List.setIfInBounds_toArray, List.set_cons_zero, List.set_cons_succ]
                refine wpAnyH_take (i := 8) (oi := ⟨some 89, .nilCheck (.tmp 81), 0, "free.go:45", #[⟨0, .data⟩, ⟨0, .phase⟩, ⟨1, .phase⟩, ⟨2, .phase⟩, ⟨3, .phase⟩, ⟨4, .phase⟩, ⟨5, .phase⟩, ⟨6, .phase⟩, ⟨7, .phase⟩], none⟩) (v := (.pointer (some ⟨tw, 0, none⟩))) rfl (by kernel_rfl) (by kernel_rfl) (by kernel_rfl) (fun _ _ _ h => h) (Or.inl ⟨by rfl, fun _ _ => by rfl⟩) trivial ?_
                simp only [Act.put, List.setIfInBounds_toArray, List.set_cons_zero, List.set_cons_succ]
                refine wpAnyH_take (i := 9) (oi := ⟨some 90, .fieldAddr 42 (.tmp 89) 4, 0, "free.go:45", #[⟨8, .data⟩, ⟨0, .phase⟩, ⟨1, .phase⟩, ⟨2, .phase⟩, ⟨3, .phase⟩, ⟨4, .phase⟩, ⟨5, .phase⟩, ⟨6, .phase⟩, ⟨7, .phase⟩], none⟩) (v := (.pointer (some ⟨tw, 4, none⟩))) rfl (by kernel_rfl) (by kernel_rfl) (by kernel_rfl) (fun _ _ _ h => h) (Or.inl ⟨by rfl, fun _ _ => by rfl⟩) trivial ?_
                simp only [Act.put, List.setIfInBounds_toArray, List.set_cons_zero, List.set_cons_succ]
                refine wpAnyH_ready (rs := [10]) (by kernel_rfl) (by simp) ?_
                refine AllReadyH.cons (o := ⟨none, .store 33 (.tmp 90) (.tmp 88), 0, "free.go:45", #[⟨9, .data⟩, ⟨7, .data⟩, ⟨7, .chain⟩, ⟨0, .phase⟩, ⟨1, .phase⟩, ⟨2, .phase⟩, ⟨3, .phase⟩, ⟨4, .phase⟩, ⟨5, .phase⟩, ⟨6, .phase⟩, ⟨7, .phase⟩], none⟩) rfl (fun KK hK => ?_) (AllReadyH.nil)
                go_simp
                refine hK.out _ _ trivial (fun hHeld => ?_)
                clear hK KK hHeld
                try simp only [Act.put, List.setIfInBounds_toArray, List.set_cons_zero, List.set_cons_succ]
                refine wpAnyH_done (by kernel_rfl) ?_ _
                have HE := town_end D T B ltw lo lw ho HL.out hxl hxz hat5 T6 t6 o7 b7 ho8 hg8 hat8
                obtain ⟨W9, hW9⟩ : ∃ W9, w8.setCell ⟨tw, 4, none⟩ (.slice (some ⟨g8, 0, none⟩) (L + 1) c8) = W9 := ⟨_, rfl⟩
                rw [hW9] at HE
                try rw [hW9]
                clear hW9 z4 zf8 X8 ho8 hg8 hat8 hlt8 rw7 u4 u4a T7 o7 b7 T6 t6 hW6 y4d ho5 hg5 hat5 hlt5 T D
                go_wp2_with fail
                go_roundw
                case rel => exact ⟨b + 1, by omega, by simp, HE⟩
                case measure => simp [intOf]; omega
          · have h32 : 32 ≤ b := by
              simp [outB7] at ho; omega
            have hb2i : ¬ (b : Int) < 2 := by omega
            have h32i : (32 : Int) ≤ b := by omega
            go_wp2_with (first
              | (at_builtin; refine wpList_append_lies _ rfl _ _ 40 rfl 0 3 i0 (.int .i64 0) 1 8 Tryz.underlying40 hi hz0 hz1 hz2 rfl (by decide) ov L _ rfl (r3.alloc _) ⟨w4.heap.size, 0, none⟩ 1 1 [.int .i64 (b : Nat)] rfl rfl (cell_one7 _ _ _) (by intro u hu; simp at hu; subst hu; rfl) (by decide) (by unfold maxLen; omega) (by omega) (by omega) _ rfl ?_; intro g5 c5 w5 ho5 hg5 hat5 hlt5; have T5 := T.grow1 tl r3 hg5; have z3 : w5.cell? ⟨tw, 3, none⟩ = some ov := by { simp [World.cell?, T5.box] }; have zf : w5.frozen? ⟨tw, 3, none⟩ = false := by { simp [World.frozen?, T5.box] }))
            have hN6 := T.out HL.out D.lt ho5 hg5 hat5
            obtain ⟨W6, hW6⟩ : ∃ W6, w5.setCell ⟨tw, 3, none⟩ (.slice (some ⟨g5, 0, none⟩) (L + 1) c5) = W6 := ⟨_, rfl⟩
            rw [hW6] at hN6
            try rw [hW6]
            obtain ⟨T6, t6⟩ := hN6
            have y4d : W6.drew.cell? ⟨tw, 4, none⟩ = some wv := by
              have : W6.drew.heap[tw]? = _ := T6.box
              simp [World.cell?, this]
            clear z3 zf T5 y3 y4
            refine wp_region_held_drew (S := fun _ => True) (by kernel_rfl) trivial (fun hHeld => ?_)
            clear hHeld
            refine wpAnyH_take (i := 0) (oi := ⟨some 81, .move (.tmp 8), 25, "free.go:45", #[], none⟩) (v := (.pointer (some ⟨tw, 0, none⟩))) rfl (by kernel_rfl) (by kernel_rfl) (by kernel_rfl) (fun _ _ _ h => h) (Or.inl ⟨by rfl, fun _ _ => by rfl⟩) trivial ?_
            simp only [Act.put, List.setIfInBounds_toArray, List.set_cons_zero, List.set_cons_succ]
            refine wpAnyH_take (i := 1) (oi := ⟨some 82, .move (.tmp 8), 25, "free.go:45", #[], none⟩) (v := (.pointer (some ⟨tw, 0, none⟩))) rfl (by kernel_rfl) (by kernel_rfl) (by kernel_rfl) (fun _ _ _ h => h) (Or.inl ⟨by rfl, fun _ _ => by rfl⟩) trivial ?_
            simp only [Act.put, List.setIfInBounds_toArray, List.set_cons_zero, List.set_cons_succ]
            refine wpAnyH_take (i := 2) (oi := ⟨some 83, .nilCheck (.tmp 82), 0, "free.go:45", #[⟨1, .data⟩], none⟩) (v := (.pointer (some ⟨tw, 0, none⟩))) rfl (by kernel_rfl) (by kernel_rfl) (by kernel_rfl) (fun _ _ _ h => h) (Or.inl ⟨by rfl, fun _ _ => by rfl⟩) trivial ?_
            simp only [Act.put, List.setIfInBounds_toArray, List.set_cons_zero, List.set_cons_succ]
            refine wpAnyH_take (i := 3) (oi := ⟨some 84, .fieldAddr 42 (.tmp 83) 4, 0, "free.go:45", #[⟨2, .data⟩], none⟩) (v := (.pointer (some ⟨tw, 4, none⟩))) rfl (by kernel_rfl) (by kernel_rfl) (by kernel_rfl) (fun _ _ _ h => h) (Or.inl ⟨by rfl, fun _ _ => by rfl⟩) trivial ?_
            simp only [Act.put, List.setIfInBounds_toArray, List.set_cons_zero, List.set_cons_succ]
            refine wpAnyH_ready (rs := [4, 5]) (by kernel_rfl) (by simp) ?_
            refine AllReadyH.cons (o := ⟨some 85, .load 33 (.tmp 84), 33, "free.go:45", #[⟨3, .data⟩], none⟩) rfl (fun KK hK => ?_) (AllReadyH.cons (o := ⟨some 86, .call ⟨.value (.func 28), #[.const (.slice none 0 0)], #[56]⟩, 56, "free.go:45", #[], none⟩) rfl (fun KK hK => ?_) (AllReadyH.nil))
            · go_simp
              refine hK.out _ _ trivial (fun hHeld => ?_)
              clear hK KK hHeld
              try simp only [Act.put, List.setIfInBounds_toArray, List.set_cons_zero, List.set_cons_succ]
              refine wpAnyH_ready (rs := [5]) (by kernel_rfl) (by simp) ?_
              refine AllReadyH.cons (o := ⟨some 86, .call ⟨.value (.func 28), #[.const (.slice none 0 0)], #[56]⟩, 56, "free.go:45", #[], none⟩) rfl (fun KK hK => ?_) (AllReadyH.nil)
              go_simp
              refine (block7 none 0 0 [] W6.drew (by omega) (Lies.nil _)).mono ?_
              rintro e w7 ⟨g7, c7, rfl, o7, b7⟩
              replace b7 := Below.fromDrew b7
              have T7 := T6.kp (Kp.below b7)
              have u4 : w7.cell? ⟨tw, 4, none⟩ = some wv := by simp [World.cell?, T7.box]
              have u4a : ∀ o, (w7.alloc o).cell? ⟨tw, 4, none⟩ = some wv := fun o => by
                have := (Below.heap_alloc w7 o tw (heap_lt T7.box)).trans T7.box
                simp [World.cell?, this]
              go_wp2_with fail
              refine hK.out _ _ trivial (fun hHeld => ?_)
              clear hK KK hHeld
              try simp only [Act.put, List.setIfInBounds_toArray, List.set_cons_zero, List.set_cons_succ]
              refine wpAnyH_ready (rs := [6]) (by kernel_rfl) (by simp) ?_
              refine AllReadyH.cons (o := ⟨some 87, .buildSlice 33 1 #[(0, .tmp 86)], 33, "free.go:45", #[⟨5, .data⟩], none⟩) rfl (fun KK hK => ?_) (AllReadyH.nil)
              go_simp
              refine hK.out _ _ trivial (fun hHeld => ?_)
              clear hK KK hHeld
              try simp only [Act.put, List.setIfInBounds_toArray, List.set_cons_zero, List.set_cons_succ]
              refine wpAnyH_ready (rs := [7]) (by kernel_rfl) (by simp) ?_
              refine AllReadyH.cons (o := ⟨some 88, .call ⟨.builtin .append, #[.tmp 85, .tmp 87], #[33, 33]⟩, 33, "free.go:45", #[⟨4, .data⟩, ⟨6, .data⟩, ⟨5, .chain⟩], none⟩) rfl (fun KK hK => ?_) (AllReadyH.nil)
              have rw7 : w7.ownsRow 0 56 1 wv L (xs.map It.val) := by
                have := T7.x.row
                rwa [hxl] at this
              refine step_append_lies _ rfl _ _ 33 rfl 0 56 i1 (.slice none 0 0) 1 24 Tryz.underlying33 ki kz0 kz1 kz2 rfl (by decide) wv L _ rfl (rw7.alloc _) ⟨w7.heap.size, 0, none⟩ 1 1 [.slice (some ⟨g7, 0, none⟩) 512 c7] rfl rfl (cell_one7 _ _ _) (by intro u hu; simp at hu; subst hu; rfl) (by decide) (by unfold maxLen; omega) (by omega) (by omega) _ rfl ?_
              intro g8 c8 w8 ho8 hg8 hat8 hlt8
              have X8 := T7.grow2 hg8
              have z4 : w8.cell? ⟨tw, 4, none⟩ = some wv := by simp [World.cell?, X8]
              have zf8 : w8.frozen? ⟨tw, 4, none⟩ = false := by simp [World.frozen?, X8]
              refine hK.out _ _ trivial (fun hHeld => ?_)
              clear hK KK hHeld
              try simp only [Act.put, List.setIfInBounds_toArray, List.set_cons_zero, List.set_cons_succ]
              refine wpAnyH_take (i := 8) (oi := ⟨some 89, .nilCheck (.tmp 81), 0, "free.go:45", #[⟨0, .data⟩, ⟨0, .phase⟩, ⟨1, .phase⟩, ⟨2, .phase⟩, ⟨3, .phase⟩, ⟨4, .phase⟩, ⟨5, .phase⟩, ⟨6, .phase⟩, ⟨7, .phase⟩], none⟩) (v := (.pointer (some ⟨tw, 0, none⟩))) rfl (by kernel_rfl) (by kernel_rfl) (by kernel_rfl) (fun _ _ _ h => h) (Or.inl ⟨by rfl, fun _ _ => by rfl⟩) trivial ?_
              simp only [Act.put, List.setIfInBounds_toArray, List.set_cons_zero, List.set_cons_succ]
              refine wpAnyH_take (i := 9) (oi := ⟨some 90, .fieldAddr 42 (.tmp 89) 4, 0, "free.go:45", #[⟨8, .data⟩, ⟨0, .phase⟩, ⟨1, .phase⟩, ⟨2, .phase⟩, ⟨3, .phase⟩, ⟨4, .phase⟩, ⟨5, .phase⟩, ⟨6, .phase⟩, ⟨7, .phase⟩], none⟩) (v := (.pointer (some ⟨tw, 4, none⟩))) rfl (by kernel_rfl) (by kernel_rfl) (by kernel_rfl) (fun _ _ _ h => h) (Or.inl ⟨by rfl, fun _ _ => by rfl⟩) trivial ?_
              simp only [Act.put, List.setIfInBounds_toArray, List.set_cons_zero, List.set_cons_succ]
              refine wpAnyH_ready (rs := [10]) (by kernel_rfl) (by simp) ?_
              refine AllReadyH.cons (o := ⟨none, .store 33 (.tmp 90) (.tmp 88), 0, "free.go:45", #[⟨9, .data⟩, ⟨7, .data⟩, ⟨7, .chain⟩, ⟨0, .phase⟩, ⟨1, .phase⟩, ⟨2, .phase⟩, ⟨3, .phase⟩, ⟨4, .phase⟩, ⟨5, .phase⟩, ⟨6, .phase⟩, ⟨7, .phase⟩], none⟩) rfl (fun KK hK => ?_) (AllReadyH.nil)
              go_simp
              refine hK.out _ _ trivial (fun hHeld => ?_)
              clear hK KK hHeld
              try simp only [Act.put, List.setIfInBounds_toArray, List.set_cons_zero, List.set_cons_succ]
              refine wpAnyH_done (by kernel_rfl) ?_ _
              have HE := town_end D T B ltw lo lw ho HL.out hxl hxz hat5 T6 t6 o7 b7 ho8 hg8 hat8
              obtain ⟨W9, hW9⟩ : ∃ W9, w8.setCell ⟨tw, 4, none⟩ (.slice (some ⟨g8, 0, none⟩) (L + 1) c8) = W9 := ⟨_, rfl⟩
              rw [hW9] at HE
              try rw [hW9]
              clear hW9 z4 zf8 X8 ho8 hg8 hat8 hlt8 rw7 u4 u4a T7 o7 b7 T6 t6 hW6 y4d ho5 hg5 hat5 hlt5 T D
              go_wp2_with fail
              go_roundw
              case rel => exact ⟨b + 1, by omega, by simp, HE⟩
              case measure => simp [intOf]; omega
            · go_simp
              refine (block7 none 0 0 [] W6.drew (by omega) (Lies.nil _)).mono ?_
              rintro e w7 ⟨g7, c7, rfl, o7, b7⟩
              replace b7 := Below.fromDrew b7
              have T7 := T6.kp (Kp.below b7)
              have u4 : w7.cell? ⟨tw, 4, none⟩ = some wv := by simp [World.cell?, T7.box]
              have u4a : ∀ o, (w7.alloc o).cell? ⟨tw, 4, none⟩ = some wv := fun o => by
                have := (Below.heap_alloc w7 o tw (heap_lt T7.box)).trans T7.box
                simp [World.cell?, this]
              go_wp2_with fail
              refine hK.out _ _ trivial (fun hHeld => ?_)
              clear hK KK hHeld
              try simp only [Act.put, List.setIfInBounds_toArray, List.set_cons_zero, List.set_cons_succ]
              refine wpAnyH_ready (rs := [4, 6]) (by kernel_rfl) (by simp) ?_
              refine AllReadyH.cons (o := ⟨some 85, .load 33 (.tmp 84), 33, "free.go:45", #[⟨3, .data⟩], none⟩) rfl (fun KK hK => ?_) (AllReadyH.cons (o := ⟨some 87, .buildSlice 33 1 #[(0, .tmp 86)], 33, "free.go:45", #[⟨5, .data⟩], none⟩) rfl (fun KK hK => ?_) (AllReadyH.nil))
              · go_simp
                refine hK.out _ _ trivial (fun hHeld => ?_)
                clear hK KK hHeld
                try simp only [Act.put, List.setIfInBounds_toArray, List.set_cons_zero, List.set_cons_succ]
                refine wpAnyH_ready (rs := [6]) (by kernel_rfl) (by simp) ?_
                refine AllReadyH.cons (o := ⟨some 87, .buildSlice 33 1 #[(0, .tmp 86)], 33, "free.go:45", #[⟨5, .data⟩], none⟩) rfl (fun KK hK => ?_) (AllReadyH.nil)
                go_simp
                refine hK.out _ _ trivial (fun hHeld => ?_)
                clear hK KK hHeld
                try simp only [Act.put, List.setIfInBounds_toArray, List.set_cons_zero, List.set_cons_succ]
                refine wpAnyH_ready (rs := [7]) (by kernel_rfl) (by simp) ?_
                refine AllReadyH.cons (o := ⟨some 88, .call ⟨.builtin .append, #[.tmp 85, .tmp 87], #[33, 33]⟩, 33, "free.go:45", #[⟨4, .data⟩, ⟨6, .data⟩, ⟨5, .chain⟩], none⟩) rfl (fun KK hK => ?_) (AllReadyH.nil)
                have rw7 : w7.ownsRow 0 56 1 wv L (xs.map It.val) := by
                  have := T7.x.row
                  rwa [hxl] at this
                refine step_append_lies _ rfl _ _ 33 rfl 0 56 i1 (.slice none 0 0) 1 24 Tryz.underlying33 ki kz0 kz1 kz2 rfl (by decide) wv L _ rfl (rw7.alloc _) ⟨w7.heap.size, 0, none⟩ 1 1 [.slice (some ⟨g7, 0, none⟩) 512 c7] rfl rfl (cell_one7 _ _ _) (by intro u hu; simp at hu; subst hu; rfl) (by decide) (by unfold maxLen; omega) (by omega) (by omega) _ rfl ?_
                intro g8 c8 w8 ho8 hg8 hat8 hlt8
                have X8 := T7.grow2 hg8
                have z4 : w8.cell? ⟨tw, 4, none⟩ = some wv := by simp [World.cell?, X8]
                have zf8 : w8.frozen? ⟨tw, 4, none⟩ = false := by simp [World.frozen?, X8]
                refine hK.out _ _ trivial (fun hHeld => ?_)
                clear hK KK hHeld
                try simp only [Act.put, List.setIfInBounds_toArray, List.set_cons_zero, List.set_cons_succ]
                refine wpAnyH_take (i := 8) (oi := ⟨some 89, .nilCheck (.tmp 81), 0, "free.go:45", #[⟨0, .data⟩, ⟨0, .phase⟩, ⟨1, .phase⟩, ⟨2, .phase⟩, ⟨3, .phase⟩, ⟨4, .phase⟩, ⟨5, .phase⟩, ⟨6, .phase⟩, ⟨7, .phase⟩], none⟩) (v := (.pointer (some ⟨tw, 0, none⟩))) rfl (by kernel_rfl) (by kernel_rfl) (by kernel_rfl) (fun _ _ _ h => h) (Or.inl ⟨by rfl, fun _ _ => by rfl⟩) trivial ?_
                simp only [Act.put, List.setIfInBounds_toArray, List.set_cons_zero, List.set_cons_succ]
                refine wpAnyH_take (i := 9) (oi := ⟨some 90, .fieldAddr 42 (.tmp 89) 4, 0, "free.go:45", #[⟨8, .data⟩, ⟨0, .phase⟩, ⟨1, .phase⟩, ⟨2, .phase⟩, ⟨3, .phase⟩, ⟨4, .phase⟩, ⟨5, .phase⟩, ⟨6, .phase⟩, ⟨7, .phase⟩], none⟩) (v := (.pointer (some ⟨tw, 4, none⟩))) rfl (by kernel_rfl) (by kernel_rfl) (by kernel_rfl) (fun _ _ _ h => h) (Or.inl ⟨by rfl, fun _ _ => by rfl⟩) trivial ?_
                simp only [Act.put, List.setIfInBounds_toArray, List.set_cons_zero, List.set_cons_succ]
                refine wpAnyH_ready (rs := [10]) (by kernel_rfl) (by simp) ?_
                refine AllReadyH.cons (o := ⟨none, .store 33 (.tmp 90) (.tmp 88), 0, "free.go:45", #[⟨9, .data⟩, ⟨7, .data⟩, ⟨7, .chain⟩, ⟨0, .phase⟩, ⟨1, .phase⟩, ⟨2, .phase⟩, ⟨3, .phase⟩, ⟨4, .phase⟩, ⟨5, .phase⟩, ⟨6, .phase⟩, ⟨7, .phase⟩], none⟩) rfl (fun KK hK => ?_) (AllReadyH.nil)
                go_simp
                refine hK.out _ _ trivial (fun hHeld => ?_)
                clear hK KK hHeld
                try simp only [Act.put, List.setIfInBounds_toArray, List.set_cons_zero, List.set_cons_succ]
                refine wpAnyH_done (by kernel_rfl) ?_ _
                have HE := town_end D T B ltw lo lw ho HL.out hxl hxz hat5 T6 t6 o7 b7 ho8 hg8 hat8
                obtain ⟨W9, hW9⟩ : ∃ W9, w8.setCell ⟨tw, 4, none⟩ (.slice (some ⟨g8, 0, none⟩) (L + 1) c8) = W9 := ⟨_, rfl⟩
                rw [hW9] at HE
                try rw [hW9]
                clear hW9 z4 zf8 X8 ho8 hg8 hat8 hlt8 rw7 u4 u4a T7 o7 b7 T6 t6 hW6 y4d ho5 hg5 hat5 hlt5 T D
                go_wp2_with fail
                go_roundw
                case rel => exact ⟨b + 1, by omega, by simp, HE⟩
                case measure => simp [intOf]; omega
              · go_simp
                refine hK.out _ _ trivial (fun hHeld => ?_)
                clear hK KK hHeld
                try simp only [Act.put, List.setIfInBounds_toArray, List.set_cons_zero, List.set_cons_succ]
                refine wpAnyH_ready (rs := [4]) (by kernel_rfl) (by simp) ?_
                refine AllReadyH.cons (o := ⟨some 85, .load 33 (.tmp 84), 33, "free.go:45", #[⟨3, .data⟩], none⟩) rfl (fun KK hK => ?_) (AllReadyH.nil)
                go_simp
                refine hK.out _ _ trivial (fun hHeld => ?_)
                clear hK KK hHeld
                try simp only [Act.put, List.setIfInBounds_toArray, List.set_cons_zero, List.set_cons_succ]
                refine wpAnyH_ready (rs := [7]) (by kernel_rfl) (by simp) ?_
                refine AllReadyH.cons (o := ⟨some 88, .call ⟨.builtin .append, #[.tmp 85, .tmp 87], #[33, 33]⟩, 33, "free.go:45", #[⟨4, .data⟩, ⟨6, .data⟩, ⟨5, .chain⟩], none⟩) rfl (fun KK hK => ?_) (AllReadyH.nil)
                have rw7 : w7.ownsRow 0 56 1 wv L (xs.map It.val) := by
                  have := T7.x.row
                  rwa [hxl] at this
                refine step_append_lies _ rfl _ _ 33 rfl 0 56 i1 (.slice none 0 0) 1 24 Tryz.underlying33 ki kz0 kz1 kz2 rfl (by decide) wv L _ rfl (rw7.alloc _) ⟨w7.heap.size, 0, none⟩ 1 1 [.slice (some ⟨g7, 0, none⟩) 512 c7] rfl rfl (cell_one7 _ _ _) (by intro u hu; simp at hu; subst hu; rfl) (by decide) (by unfold maxLen; omega) (by omega) (by omega) _ rfl ?_
                intro g8 c8 w8 ho8 hg8 hat8 hlt8
                have X8 := T7.grow2 hg8
                have z4 : w8.cell? ⟨tw, 4, none⟩ = some wv := by simp [World.cell?, X8]
                have zf8 : w8.frozen? ⟨tw, 4, none⟩ = false := by simp [World.frozen?, X8]
                refine hK.out _ _ trivial (fun hHeld => ?_)
                clear hK KK hHeld
                try simp only [Act.put, List.setIfInBounds_toArray, List.set_cons_zero, List.set_cons_succ]
                refine wpAnyH_take (i := 8) (oi := ⟨some 89, .nilCheck (.tmp 81), 0, "free.go:45", #[⟨0, .data⟩, ⟨0, .phase⟩, ⟨1, .phase⟩, ⟨2, .phase⟩, ⟨3, .phase⟩, ⟨4, .phase⟩, ⟨5, .phase⟩, ⟨6, .phase⟩, ⟨7, .phase⟩], none⟩) (v := (.pointer (some ⟨tw, 0, none⟩))) rfl (by kernel_rfl) (by kernel_rfl) (by kernel_rfl) (fun _ _ _ h => h) (Or.inl ⟨by rfl, fun _ _ => by rfl⟩) trivial ?_
                simp only [Act.put, List.setIfInBounds_toArray, List.set_cons_zero, List.set_cons_succ]
                refine wpAnyH_take (i := 9) (oi := ⟨some 90, .fieldAddr 42 (.tmp 89) 4, 0, "free.go:45", #[⟨8, .data⟩, ⟨0, .phase⟩, ⟨1, .phase⟩, ⟨2, .phase⟩, ⟨3, .phase⟩, ⟨4, .phase⟩, ⟨5, .phase⟩, ⟨6, .phase⟩, ⟨7, .phase⟩], none⟩) (v := (.pointer (some ⟨tw, 4, none⟩))) rfl (by kernel_rfl) (by kernel_rfl) (by kernel_rfl) (fun _ _ _ h => h) (Or.inl ⟨by rfl, fun _ _ => by rfl⟩) trivial ?_
                simp only [Act.put, List.setIfInBounds_toArray, List.set_cons_zero, List.set_cons_succ]
                refine wpAnyH_ready (rs := [10]) (by kernel_rfl) (by simp) ?_
                refine AllReadyH.cons (o := ⟨none, .store 33 (.tmp 90) (.tmp 88), 0, "free.go:45", #[⟨9, .data⟩, ⟨7, .data⟩, ⟨7, .chain⟩, ⟨0, .phase⟩, ⟨1, .phase⟩, ⟨2, .phase⟩, ⟨3, .phase⟩, ⟨4, .phase⟩, ⟨5, .phase⟩, ⟨6, .phase⟩, ⟨7, .phase⟩], none⟩) rfl (fun KK hK => ?_) (AllReadyH.nil)
                go_simp
                refine hK.out _ _ trivial (fun hHeld => ?_)
                clear hK KK hHeld
                try simp only [Act.put, List.setIfInBounds_toArray, List.set_cons_zero, List.set_cons_succ]
                refine wpAnyH_done (by kernel_rfl) ?_ _
                have HE := town_end D T B ltw lo lw ho HL.out hxl hxz hat5 T6 t6 o7 b7 ho8 hg8 hat8
                obtain ⟨W9, hW9⟩ : ∃ W9, w8.setCell ⟨tw, 4, none⟩ (.slice (some ⟨g8, 0, none⟩) (L + 1) c8) = W9 := ⟨_, rfl⟩
                rw [hW9] at HE
                try rw [hW9]
                clear hW9 z4 zf8 X8 ho8 hg8 hat8 hlt8 rw7 u4 u4a T7 o7 b7 T6 t6 hW6 y4d ho5 hg5 hat5 hlt5 T D
                go_wp2_with fail
                go_roundw
                case rel => exact ⟨b + 1, by omega, by simp, HE⟩
                case measure => simp [intOf]; omega
        · have ho2 : ¬ b < 2 ∧ b < 32 := by
            simp [outB7] at ho; omega
          have hb2i : ¬ (b : Int) < 2 := by omega
          have h32i : ¬ (32 : Int) ≤ b := by omega
          have HE : TR w G tw db (b + 1) w4 := by
            have e : outs (b + 1) = outs b := by rw [outs_succ]; simp [ho]
            exact ⟨ov, wv, xs, D, by rw [e]; exact T, by rw [e]; exact hxl, hxz, lo, lw, B⟩
          clear D T hxl
          go_wp2_with fail
          go_roundw
          case rel => exact ⟨b + 1, by omega, by simp, HE⟩
          case measure => simp [intOf]; omega
      · have hb40 : b = 40 := by omega
        subst hb40
        have HT : Hid (Dev w4 db 0 F40 40 30 G ∧ Tn w4 G tw db ov wv (outs 40) xs ∧ xs.length = 10) := ⟨D, T, by rw [hxl, outs_40]; rfl⟩
        clear D T hxl
        go_wp2_with fail
        refine (num7 0 w4).mono ?_
        rintro e w5 ⟨rfl, rfl⟩
        go_wp2_with fail
        obtain ⟨Dz, Tz, lz⟩ := HT.out
        refine bodyPost_ret (results_tmp2 rfl _ _ _) rfl ?_
        exact ⟨tw, db, 30, G, ov, wv, xs, rfl, Dz, by omega, fun i hi => (f3 i hi).1, Tz, lz, hxz, ltw, lo, B⟩
  by_cases c4 : n - 1 < sz
  · as_aux_lemma =>
    go_enter Tryz.func10, Tryz.ntmps10
    go_wp2_with fail
    refine (new_good 40 w (by omega) (by omega)).mono ?_
    rintro e w1 ⟨db, rfl, D1, b1⟩
    replace D1 : Dev w1 db 0 S40 40 0 (grow (fun _ => False) w w1) := D1
    obtain ⟨W2, hW2⟩ : ∃ W, w1.alloc (.cells #[.pointer (some ⟨db, 0, none⟩), .int .i64 2, .int .i64 30, .slice none 0 0, .slice none 0 0] 42) = W := ⟨_, rfl⟩
    have b2 : Below w1.heap.size w1 W2 := by rw [← hW2]; exact (Below.refl _ w1).alloc (Nat.le_refl _) _
    have s2 : W2.heap.size = w1.heap.size + 1 := by rw [← hW2]; simp
    have X2 : W2.heap[w1.heap.size]? = some (.cells #[.pointer (some ⟨db, 0, none⟩), .int .i64 2, .int .i64 30, .slice none 0 0, .slice none 0 0] 42) := by rw [← hW2]; exact (MapKept.heap_alloc w1 _).1
    have D2 := D1.below b2
    obtain ⟨tw, htw⟩ : ∃ tw, w1.heap.size = tw := ⟨_, rfl⟩
    rw [htw] at X2
    have q0 : W2.cell? ⟨tw, 0, none⟩ = some (.pointer (some ⟨db, 0, none⟩)) := by simp [World.cell?, X2]
    go_wp2_with fail
    try rw [hW2]
    try rw [htw]
    refine (format40 D2 (by omega)).mono ?_
    rintro e w3 ⟨rfl, D3, t3⟩
    have sb1 := b1.size
    have f1 : ∀ i, grow (fun _ => False) w w1 i → w.heap.size ≤ i ∧ i < w1.heap.size := fun i hi => hi.elim False.elim (fun r => r)
    have X3 := (t3.block tw (heap_lt X2) (fun r => by have := f1 tw r; omega)).trans X2
    have b02 : Below w.heap.size w W2 := b1.trans (b2.mono b1.size)
    have B3 : Below w.heap.size w w3 := b02.trans (t3.below (fun i r => (f1 i r).1) b02.size)
    have f3 : ∀ i, grow (grow (fun _ => False) w w1) W2 w3 i → w.heap.size ≤ i ∧ i ≠ tw := fun i hi => hi.elim (fun r => ⟨(f1 i r).1, by have := f1 i r; omega⟩) (fun r => ⟨by omega, by omega⟩)
    generalize grow (grow (fun _ => False) w w1) W2 w3 = G at D3 f3
    have hGl := D3.lt
    have T3 : Tn w3 G tw db (.slice none 0 0) (.slice none 0 0) (outs 0) [] := ⟨X3, ⟨⟨rfl, Or.inl ⟨rfl, rfl⟩⟩, (fun b hb => by cases hb)⟩, ⟨⟨rfl, Or.inl ⟨rfl, rfl⟩⟩, (fun b hb => by cases hb), (fun x hx => by cases hx)⟩, fun r => (f3 tw r).2 rfl⟩
    have ltw : w.heap.size ≤ tw := by omega
    clear D1 D2 t3 q0 X2 X3 hW2 f1
    go_wp2_with fail
    go_loopw [10] (fun i wr => ∃ (b : Nat), b ≤ 40 ∧ i = .int .i64 b ∧ TR w G tw db b wr) (fun i _ => 40 - (intOf i).toNat)
    case atStart => exact ⟨0, by omega, rfl, _, _, [], D3, T3, rfl, (fun x hx => by cases hx), (fun c hc => by cases hc), (fun c hc => by cases hc), B3⟩
    case round =>
      clear D3 T3 B3
      obtain ⟨b, hb, rfl, ov, wv, xs, D, T, hxl, hxz, lo, lw, B⟩ := hrel
      obtain ⟨w4, hw4⟩ : ∃ w4, w4 = wr := ⟨wr, rfl⟩
      subst hw4
      by_cases hlt : b < 40
      · have hbi : (b : Int) < 40 := by omega
        by_cases ho : outB7 b = true
        · have y3 : w4.cell? ⟨tw, 3, none⟩ = some ov := by simp [World.cell?, T.box]
          have y4 : w4.cell? ⟨tw, 4, none⟩ = some wv := by simp [World.cell?, T.box]
          have r3 := T.o.row
          have ol := outs_le b
          have s4 := B.size
          have tl := heap_lt T.box
          have hD4 := D.lt
          obtain ⟨L, hL⟩ : ∃ L, (outs b).length = L := ⟨_, rfl⟩
          have HL : Hid ((outs b).length = L) := hL
          rw [hL] at r3 ol hxl
          clear hL
          by_cases hb2 : b < 2
          · have hb2i : (b : Int) < 2 := by omega
            go_wp2_with (first
              | (at_builtin; refine wpList_append_lies _ rfl _ _ 40 rfl 0 3 i0 (.int .i64 0) 1 8 Tryz.underlying40 hi hz0 hz1 hz2 rfl (by decide) ov L _ rfl (r3.alloc _) ⟨w4.heap.size, 0, none⟩ 1 1 [.int .i64 (b : Nat)] rfl rfl (cell_one7 _ _ _) (by intro u hu; simp at hu; subst hu; rfl) (by decide) (by unfold maxLen; omega) (by omega) (by omega) _ rfl ?_; intro g5 c5 w5 ho5 hg5 hat5 hlt5; have T5 := T.grow1 tl r3 hg5; have z3 : w5.cell? ⟨tw, 3, none⟩ = some ov := by { simp [World.cell?, T5.box] }; have zf : w5.frozen? ⟨tw, 3, none⟩ = false := by { simp [World.frozen?, T5.box] }))
            have hN6 := T.out HL.out D.lt ho5 hg5 hat5
            obtain ⟨W6, hW6⟩ : ∃ W6, w5.setCell ⟨tw, 3, none⟩ (.slice (some ⟨g5, 0, none⟩) (L + 1) c5) = W6 := ⟨_, rfl⟩
            rw [hW6] at hN6
            try rw [hW6]
            obtain ⟨T6, t6⟩ := hN6
            have y4d : W6.drew.cell? ⟨tw, 4, none⟩ = some wv := by
              have : W6.drew.heap[tw]? = _ := T6.box
              simp [World.cell?, this]
            clear z3 zf T5 y3 y4
            refine wp_region_held_drew (S := fun _ => True) (by kernel_rfl) trivial (fun hHeld => ?_)
            clear hHeld
            refine wpAnyH_take (i := 0) (oi := ⟨some 81, .move (.tmp 8), 25, "free.go:45", #[], none⟩) (v := (.pointer (some ⟨tw, 0, none⟩))) rfl (by kernel_rfl) (by kernel_rfl) (by kernel_rfl) (fun _ _ _ h => h) (Or.inl ⟨by rfl, fun _ _ => by rfl⟩) trivial ?_
            simp only [Act.put, List.setIfInBounds_toArray, List.set_cons_zero, List.set_cons_succ]
            refine wpAnyH_take (i := 1) (oi := ⟨some 82, .move (.tmp 8), 25, "free.go:45", #[], none⟩) (v := (.pointer (some ⟨tw, 0, none⟩))) rfl (by kernel_rfl) (by kernel_rfl) (by kernel_rfl) (fun _ _ _ h => h) (Or.inl ⟨by rfl, fun _ _ => by rfl⟩) trivial ?_
            simp only [Act.put, List.setIfInBounds_toArray, List.set_cons_zero, List.set_cons_succ]
            refine wpAnyH_take (i := 2) (oi := ⟨some 83, .nilCheck (.tmp 82), 0, "free.go:45", #[⟨1, .data⟩], none⟩) (v := (.pointer (some ⟨tw, 0, none⟩))) rfl (by kernel_rfl) (by kernel_rfl) (by kernel_rfl) (fun _ _ _ h => h) (Or.inl ⟨by rfl, fun _ _ => by rfl⟩) trivial ?_
            simp only [Act.put, List.setIfInBounds_toArray, List.set_cons_zero, List.set_cons_succ]
            refine wpAnyH_take (i := 3) (oi := ⟨some 84, .fieldAddr 42 (.tmp 83) 4, 0, "free.go:45", #[⟨2, .data⟩], none⟩) (v := (.pointer (some ⟨tw, 4, none⟩))) rfl (by kernel_rfl) (by kernel_rfl) (by kernel_rfl) (fun _ _ _ h => h) (Or.inl ⟨by rfl, fun _ _ => by rfl⟩) trivial ?_
            simp only [Act.put, List.setIfInBounds_toArray, List.set_cons_zero, List.set_cons_succ]
            refine wpAnyH_ready (rs := [4, 5]) (by kernel_rfl) (by simp) ?_
            refine AllReadyH.cons (o := ⟨some 85, .load 33 (.tmp 84), 33, "free.go:45", #[⟨3, .data⟩], none⟩) rfl (fun KK hK => ?_) (AllReadyH.cons (o := ⟨some 86, .call ⟨.value (.func 28), #[.const (.slice none 0 0)], #[56]⟩, 56, "free.go:45", #[], none⟩) rfl (fun KK hK => ?_) (AllReadyH.nil))
            · go_simp
              refine hK.out _ _ trivial (fun hHeld => ?_)
              clear hK KK hHeld
              try simp only [Act.put, List.setIfInBounds_toArray, List.set_cons_zero, List.set_cons_succ]
              refine wpAnyH_ready (rs := [5]) (by kernel_rfl) (by simp) ?_
              refine AllReadyH.cons (o := ⟨some 86, .call ⟨.value (.func 28), #[.const (.slice none 0 0)], #[56]⟩, 56, "free.go:45", #[], none⟩) rfl (fun KK hK => ?_) (AllReadyH.nil)
              go_simp
              refine (block7 none 0 0 [] W6.drew (by omega) (Lies.nil _)).mono ?_
              rintro e w7 ⟨g7, c7, rfl, o7, b7⟩
              replace b7 := Below.fromDrew b7
              have T7 := T6.kp (Kp.below b7)
              have u4 : w7.cell? ⟨tw, 4, none⟩ = some wv := by simp [World.cell?, T7.box]
              have u4a : ∀ o, (w7.alloc o).cell? ⟨tw, 4, none⟩ = some wv := fun o => by
                have := (Below.heap_alloc w7 o tw (heap_lt T7.box)).trans T7.box
                simp [World.cell?, this]
              go_wp2_with fail
              refine hK.out _ _ trivial (fun hHeld => ?_)
              clear hK KK hHeld
              try simp only [Act.put, List.setIfInBounds_toArray, List.set_cons_zero, List.set_cons_succ]
              refine wpAnyH_ready (rs := [6]) (by kernel_rfl) (by simp) ?_
              refine AllReadyH.cons (o := ⟨some 87, .buildSlice 33 1 #[(0, .tmp 86)], 33, "free.go:45", #[⟨5, .data⟩], none⟩) rfl (fun KK hK => ?_) (AllReadyH.nil)
              go_simp
              refine hK.out _ _ trivial (fun hHeld => ?_)
              clear hK KK hHeld
              try simp only [Act.put, List.setIfInBounds_toArray, List.set_cons_zero, List.set_cons_succ]
              refine wpAnyH_ready (rs := [7]) (by kernel_rfl) (by simp) ?_
              refine AllReadyH.cons (o := ⟨some 88, .call ⟨.builtin .append, #[.tmp 85, .tmp 87], #[33, 33]⟩, 33, "free.go:45", #[⟨4, .data⟩, ⟨6, .data⟩, ⟨5, .chain⟩], none⟩) rfl (fun KK hK => ?_) (AllReadyH.nil)
              have rw7 : w7.ownsRow 0 56 1 wv L (xs.map It.val) := by
                have := T7.x.row
                rwa [hxl] at this
              refine step_append_lies _ rfl _ _ 33 rfl 0 56 i1 (.slice none 0 0) 1 24 Tryz.underlying33 ki kz0 kz1 kz2 rfl (by decide) wv L _ rfl (rw7.alloc _) ⟨w7.heap.size, 0, none⟩ 1 1 [.slice (some ⟨g7, 0, none⟩) 512 c7] rfl rfl (cell_one7 _ _ _) (by intro u hu; simp at hu; subst hu; rfl) (by decide) (by unfold maxLen; omega) (by omega) (by omega) _ rfl ?_
              intro g8 c8 w8 ho8 hg8 hat8 hlt8
              have X8 := T7.grow2 hg8
              have z4 : w8.cell? ⟨tw, 4, none⟩ = some wv := by simp [World.cell?, X8]
              have zf8 : w8.frozen? ⟨tw, 4, none⟩ = false := by simp [World.frozen?, X8]
              refine hK.out _ _ trivial (fun hHeld => ?_)
              clear hK KK hHeld
              try simp only [Act.put, List.setIfInBounds_toArray, List.set_cons_zero, List.set_cons_succ]
              refine wpAnyH_take (i := 8) (oi := ⟨some 89, .nilCheck (.tmp 81), 0, "free.go:45", #[⟨0, .data⟩, ⟨0, .phase⟩, ⟨1, .phase⟩, ⟨2, .phase⟩, ⟨3, .phase⟩, ⟨4, .phase⟩, ⟨5, .phase⟩, ⟨6, .phase⟩, ⟨7, .phase⟩], none⟩) (v := (.pointer (some ⟨tw, 0, none⟩))) rfl (by kernel_rfl) (by kernel_rfl) (by kernel_rfl) (fun _ _ _ h => h) (Or.inl ⟨by rfl, fun _ _ => by rfl⟩) trivial ?_
              simp only [Act.put, List.setIfInBounds_toArray, List.set_cons_zero, List.set_cons_succ]
              refine wpAnyH_take (i := 9) (oi := ⟨some 90, .fieldAddr 42 (.tmp 89) 4, 0, "free.go:45", #[⟨8, .data⟩, ⟨0, .phase⟩, ⟨1, .phase⟩, ⟨2, .phase⟩, ⟨3, .phase⟩, ⟨4, .phase⟩, ⟨5, .phase⟩, ⟨6, .phase⟩, ⟨7, .phase⟩], none⟩) (v := (.pointer (some ⟨tw, 4, none⟩))) rfl (by kernel_rfl) (by kernel_rfl) (by kernel_rfl) (fun _ _ _ h => h) (Or.inl ⟨by rfl, fun _ _ => by rfl⟩) trivial ?_
              simp only [Act.put, List.setIfInBounds_toArray, List.set_cons_zero, List.set_cons_succ]
              refine wpAnyH_ready (rs := [10]) (by kernel_rfl) (by simp) ?_
              refine AllReadyH.cons (o := ⟨none, .store 33 (.tmp 90) (.tmp 88), 0, "free.go:45", #[⟨9, .data⟩, ⟨7, .data⟩, ⟨7, .chain⟩, ⟨0, .phase⟩, ⟨1, .phase⟩, ⟨2, .phase⟩, ⟨3, .phase⟩, ⟨4, .phase⟩, ⟨5, .phase⟩, ⟨6, .phase⟩, ⟨7, .phase⟩], none⟩) rfl (fun KK hK => ?_) (AllReadyH.nil)
              go_simp
              refine hK.out _ _ trivial (fun hHeld => ?_)
              clear hK KK hHeld
              try simp only [Act.put, List.setIfInBounds_toArray, List.set_cons_zero, List.set_cons_succ]
              refine wpAnyH_done (by kernel_rfl) ?_ _
              have HE := town_end D T B ltw lo lw ho HL.out hxl hxz hat5 T6 t6 o7 b7 ho8 hg8 hat8
              obtain ⟨W9, hW9⟩ : ∃ W9, w8.setCell ⟨tw, 4, none⟩ (.slice (some ⟨g8, 0, none⟩) (L + 1) c8) = W9 := ⟨_, rfl⟩
              rw [hW9] at HE
              try rw [hW9]
              clear hW9 z4 zf8 X8 ho8 hg8 hat8 hlt8 rw7 u4 u4a T7 o7 b7 T6 t6 hW6 y4d ho5 hg5 hat5 hlt5 T D
              go_wp2_with fail
              go_roundw
              case rel => exact ⟨b + 1, by omega, by simp, HE⟩
              case measure => simp [intOf]; omega
            · go_simp
              refine (block7 none 0 0 [] W6.drew (by omega) (Lies.nil _)).mono ?_
              rintro e w7 ⟨g7, c7, rfl, o7, b7⟩
              replace b7 := Below.fromDrew b7
              have T7 := T6.kp (Kp.below b7)
              have u4 : w7.cell? ⟨tw, 4, none⟩ = some wv := by simp [World.cell?, T7.box]
              have u4a : ∀ o, (w7.alloc o).cell? ⟨tw, 4, none⟩ = some wv := fun o => by
                have := (Below.heap_alloc w7 o tw (heap_lt T7.box)).trans T7.box
                simp [World.cell?, this]
              go_wp2_with fail
              refine hK.out _ _ trivial (fun hHeld => ?_)
              clear hK KK hHeld
              try simp only [Act.put, List.setIfInBounds_toArray, List.set_cons_zero, List.set_cons_succ]
              refine wpAnyH_ready (rs := [4, 6]) (by kernel_rfl) (by simp) ?_
              refine AllReadyH.cons (o := ⟨some 85, .load 33 (.tmp 84), 33, "free.go:45", #[⟨3, .data⟩], none⟩) rfl (fun KK hK => ?_) (AllReadyH.cons (o := ⟨some 87, .buildSlice 33 1 #[(0, .tmp 86)], 33, "free.go:45", #[⟨5, .data⟩], none⟩) rfl (fun KK hK => ?_) (AllReadyH.nil))
              · go_simp
                refine hK.out _ _ trivial (fun hHeld => ?_)
                clear hK KK hHeld
                try simp only [Act.put, List.setIfInBounds_toArray, List.set_cons_zero, List.set_cons_succ]
                refine wpAnyH_ready (rs := [6]) (by kernel_rfl) (by simp) ?_
                refine AllReadyH.cons (o := ⟨some 87, .buildSlice 33 1 #[(0, .tmp 86)], 33, "free.go:45", #[⟨5, .data⟩], none⟩) rfl (fun KK hK => ?_) (AllReadyH.nil)
                go_simp
                refine hK.out _ _ trivial (fun hHeld => ?_)
                clear hK KK hHeld
                try simp only [Act.put, List.setIfInBounds_toArray, List.set_cons_zero, List.set_cons_succ]
                refine wpAnyH_ready (rs := [7]) (by kernel_rfl) (by simp) ?_
                refine AllReadyH.cons (o := ⟨some 88, .call ⟨.builtin .append, #[.tmp 85, .tmp 87], #[33, 33]⟩, 33, "free.go:45", #[⟨4, .data⟩, ⟨6, .data⟩, ⟨5, .chain⟩], none⟩) rfl (fun KK hK => ?_) (AllReadyH.nil)
                have rw7 : w7.ownsRow 0 56 1 wv L (xs.map It.val) := by
                  have := T7.x.row
                  rwa [hxl] at this
                refine step_append_lies _ rfl _ _ 33 rfl 0 56 i1 (.slice none 0 0) 1 24 Tryz.underlying33 ki kz0 kz1 kz2 rfl (by decide) wv L _ rfl (rw7.alloc _) ⟨w7.heap.size, 0, none⟩ 1 1 [.slice (some ⟨g7, 0, none⟩) 512 c7] rfl rfl (cell_one7 _ _ _) (by intro u hu; simp at hu; subst hu; rfl) (by decide) (by unfold maxLen; omega) (by omega) (by omega) _ rfl ?_
                intro g8 c8 w8 ho8 hg8 hat8 hlt8
                have X8 := T7.grow2 hg8
                have z4 : w8.cell? ⟨tw, 4, none⟩ = some wv := by simp [World.cell?, X8]
                have zf8 : w8.frozen? ⟨tw, 4, none⟩ = false := by simp [World.frozen?, X8]
                refine hK.out _ _ trivial (fun hHeld => ?_)
                clear hK KK hHeld
                try simp only [Act.put, List.setIfInBounds_toArray, List.set_cons_zero, List.set_cons_succ]
                refine wpAnyH_take (i := 8) (oi := ⟨some 89, .nilCheck (.tmp 81), 0, "free.go:45", #[⟨0, .data⟩, ⟨0, .phase⟩, ⟨1, .phase⟩, ⟨2, .phase⟩, ⟨3, .phase⟩, ⟨4, .phase⟩, ⟨5, .phase⟩, ⟨6, .phase⟩, ⟨7, .phase⟩], none⟩) (v := (.pointer (some ⟨tw, 0, none⟩))) rfl (by kernel_rfl) (by kernel_rfl) (by kernel_rfl) (fun _ _ _ h => h) (Or.inl ⟨by rfl, fun _ _ => by rfl⟩) trivial ?_
                simp only [Act.put, List.setIfInBounds_toArray, List.set_cons_zero, List.set_cons_succ]
                refine wpAnyH_take (i := 9) (oi := ⟨some 90, .fieldAddr 42 (.tmp 89) 4, 0, "free.go:45", #[⟨8, .data⟩, ⟨0, .phase⟩, ⟨1, .phase⟩, ⟨2, .phase⟩, ⟨3, .phase⟩, ⟨4, .phase⟩, ⟨5, .phase⟩, ⟨6, .phase⟩, ⟨7, .phase⟩], none⟩) (v := (.pointer (some ⟨tw, 4, none⟩))) rfl (by kernel_rfl) (by kernel_rfl) (by kernel_rfl) (fun _ _ _ h => h) (Or.inl ⟨by rfl, fun _ _ => by rfl⟩) trivial ?_
                simp only [Act.put, List.setIfInBounds_toArray, List.set_cons_zero, List.set_cons_succ]
                refine wpAnyH_ready (rs := [10]) (by kernel_rfl) (by simp) ?_
                refine AllReadyH.cons (o := ⟨none, .store 33 (.tmp 90) (.tmp 88), 0, "free.go:45", #[⟨9, .data⟩, ⟨7, .data⟩, ⟨7, .chain⟩, ⟨0, .phase⟩, ⟨1, .phase⟩, ⟨2, .phase⟩, ⟨3, .phase⟩, ⟨4, .phase⟩, ⟨5, .phase⟩, ⟨6, .phase⟩, ⟨7, .phase⟩], none⟩) rfl (fun KK hK => ?_) (AllReadyH.nil)
                go_simp
                refine hK.out _ _ trivial (fun hHeld => ?_)
                clear hK KK hHeld
                try simp only [Act.put, List.setIfInBounds_toArray, List.set_cons_zero, List.set_cons_succ]
                refine wpAnyH_done (by kernel_rfl) ?_ _
                have HE := town_end D T B ltw lo lw ho HL.out hxl hxz hat5 T6 t6 o7 b7 ho8 hg8 hat8
                obtain ⟨W9, hW9⟩ : ∃ W9, w8.setCell ⟨tw, 4, none⟩ (.slice (some ⟨g8, 0, none⟩) (L + 1) c8) = W9 := ⟨_, rfl⟩
                rw [hW9] at HE
                try rw [hW9]
                clear hW9 z4 zf8 X8 ho8 hg8 hat8 hlt8 rw7 u4 u4a T7 o7 b7 T6 t6 hW6 y4d ho5 hg5 hat5 hlt5 T D
                go_wp2_with fail
                go_roundw
                case rel => exact ⟨b + 1, by omega, by simp, HE⟩
                case measure => simp [intOf]; omega
              · go_simp
                refine hK.out _ _ trivial (fun hHeld => ?_)
                clear hK KK hHeld
                try simp only [Act.put, List.setIfInBounds_toArray, List.set_cons_zero, List.set_cons_succ]
                refine wpAnyH_ready (rs := [4]) (by kernel_rfl) (by simp) ?_
                refine AllReadyH.cons (o := ⟨some 85, .load 33 (.tmp 84), 33, "free.go:45", #[⟨3, .data⟩], none⟩) rfl (fun KK hK => ?_) (AllReadyH.nil)
                go_simp
                refine hK.out _ _ trivial (fun hHeld => ?_)
                clear hK KK hHeld
                try simp only [Act.put, List.setIfInBounds_toArray, List.set_cons_zero, List.set_cons_succ]
                refine wpAnyH_ready (rs := [7]) (by kernel_rfl) (by simp) ?_
                refine AllReadyH.cons (o := ⟨some 88, .call ⟨.builtin .append, #[.tmp 85, .tmp 87], #[33, 33]⟩, 33, "free.go:45", #[⟨4, .data⟩, ⟨6, .data⟩, ⟨5, .chain⟩], none⟩) rfl (fun KK hK => ?_) (AllReadyH.nil)
                have rw7 : w7.ownsRow 0 56 1 wv L (xs.map It.val) := by
                  have := T7.x.row
                  rwa [hxl] at this
                refine step_append_lies _ rfl _ _ 33 rfl 0 56 i1 (.slice none 0 0) 1 24 Tryz.underlying33 ki kz0 kz1 kz2 rfl (by decide) wv L _ rfl (rw7.alloc _) ⟨w7.heap.size, 0, none⟩ 1 1 [.slice (some ⟨g7, 0, none⟩) 512 c7] rfl rfl (cell_one7 _ _ _) (by intro u hu; simp at hu; subst hu; rfl) (by decide) (by unfold maxLen; omega) (by omega) (by omega) _ rfl ?_
                intro g8 c8 w8 ho8 hg8 hat8 hlt8
                have X8 := T7.grow2 hg8
                have z4 : w8.cell? ⟨tw, 4, none⟩ = some wv := by simp [World.cell?, X8]
                have zf8 : w8.frozen? ⟨tw, 4, none⟩ = false := by simp [World.frozen?, X8]
                refine hK.out _ _ trivial (fun hHeld => ?_)
                clear hK KK hHeld
                try simp only [Act.put, List.setIfInBounds_toArray, List.set_cons_zero, List.set_cons_succ]
                refine wpAnyH_take (i := 8) (oi := ⟨some 89, .nilCheck (.tmp 81), 0, "free.go:45", #[⟨0, .data⟩, ⟨0, .phase⟩, ⟨1, .phase⟩, ⟨2, .phase⟩, ⟨3, .phase⟩, ⟨4, .phase⟩, ⟨5, .phase⟩, ⟨6, .phase⟩, ⟨7, .phase⟩], none⟩) (v := (.pointer (some ⟨tw, 0, none⟩))) rfl (by kernel_rfl) (by kernel_rfl) (by kernel_rfl) (fun _ _ _ h => h) (Or.inl ⟨by rfl, fun _ _ => by rfl⟩) trivial ?_
                simp only [Act.put, List.setIfInBounds_toArray, List.set_cons_zero, List.set_cons_succ]
                refine wpAnyH_take (i := 9) (oi := ⟨some 90, .fieldAddr 42 (.tmp 89) 4, 0, "free.go:45", #[⟨8, .data⟩, ⟨0, .phase⟩, ⟨1, .phase⟩, ⟨2, .phase⟩, ⟨3, .phase⟩, ⟨4, .phase⟩, ⟨5, .phase⟩, ⟨6, .phase⟩, ⟨7, .phase⟩], none⟩) (v := (.pointer (some ⟨tw, 4, none⟩))) rfl (by kernel_rfl) (by kernel_rfl) (by kernel_rfl) (fun _ _ _ h => h) (Or.inl ⟨by rfl, fun _ _ => by rfl⟩) trivial ?_
                simp only [Act.put, List.setIfInBounds_toArray, List.set_cons_zero, List.set_cons_succ]
                refine wpAnyH_ready (rs := [10]) (by kernel_rfl) (by simp) ?_
                refine AllReadyH.cons (o := ⟨none, .store 33 (.tmp 90) (.tmp 88), 0, "free.go:45", #[⟨9, .data⟩, ⟨7, .data⟩, ⟨7, .chain⟩, ⟨0, .phase⟩, ⟨1, .phase⟩, ⟨2, .phase⟩, ⟨3, .phase⟩, ⟨4, .phase⟩, ⟨5, .phase⟩, ⟨6, .phase⟩, ⟨7, .phase⟩], none⟩) rfl (fun KK hK => ?_) (AllReadyH.nil)
                go_simp
                refine hK.out _ _ trivial (fun hHeld => ?_)
                clear hK KK hHeld
                try simp only [Act.put, List.setIfInBounds_toArray, List.set_cons_zero, List.set_cons_succ]
                refine wpAnyH_done (by kernel_rfl) ?_ _
                have HE := town_end D T B ltw lo lw ho HL.out hxl hxz hat5 T6 t6 o7 b7 ho8 hg8 hat8
                obtain ⟨W9, hW9⟩ : ∃ W9, w8.setCell ⟨tw, 4, none⟩ (.slice (some ⟨g8, 0, none⟩) (L + 1) c8) = W9 := ⟨_, rfl⟩
                rw [hW9] at HE
                try rw [hW9]
                clear hW9 z4 zf8 X8 ho8 hg8 hat8 hlt8 rw7 u4 u4a T7 o7 b7 T6 t6 hW6 y4d ho5 hg5 hat5 hlt5 T D
                go_wp2_with fail
                go_roundw
                case rel => exact ⟨b + 1, by omega, by simp, HE⟩
                case measure => simp [intOf]; omega
          · have h32 : 32 ≤ b := by
              simp [outB7] at ho; omega
            have hb2i : ¬ (b : Int) < 2 := by omega
            have h32i : (32 : Int) ≤ b := by omega
            go_wp2_with (first
              | (at_builtin; refine wpList_append_lies _ rfl _ _ 40 rfl 0 3 i0 (.int .i64 0) 1 8 Tryz.underlying40 hi hz0 hz1 hz2 rfl (by decide) ov L _ rfl (r3.alloc _) ⟨w4.heap.size, 0, none⟩ 1 1 [.int .i64 (b : Nat)] rfl rfl (cell_one7 _ _ _) (by intro u hu; simp at hu; subst hu; rfl) (by decide) (by unfold maxLen; omega) (by omega) (by omega) _ rfl ?_; intro g5 c5 w5 ho5 hg5 hat5 hlt5; have T5 := T.grow1 tl r3 hg5; have z3 : w5.cell? ⟨tw, 3, none⟩ = some ov := by { simp [World.cell?, T5.box] }; have zf : w5.frozen? ⟨tw, 3, none⟩ = false := by { simp [World.frozen?, T5.box] }))
            have hN6 := T.out HL.out D.lt ho5 hg5 hat5
            obtain ⟨W6, hW6⟩ : ∃ W6, w5.setCell ⟨tw, 3, none⟩ (.slice (some ⟨g5, 0, none⟩) (L + 1) c5) = W6 := ⟨_, rfl⟩
            rw [hW6] at hN6
            try rw [hW6]
            obtain ⟨T6, t6⟩ := hN6
            have y4d : W6.drew.cell? ⟨tw, 4, none⟩ = some wv := by
              have : W6.drew.heap[tw]? = _ := T6.box
              simp [World.cell?, this]
            clear z3 zf T5 y3 y4
            refine wp_region_held_drew (S := fun _ => True) (by kernel_rfl) trivial (fun hHeld => ?_)
            clear hHeld
            refine wpAnyH_take (i := 0) (oi := ⟨some 81, .move (.tmp 8), 25, "free.go:45", #[], none⟩) (v := (.pointer (some ⟨tw, 0, none⟩))) rfl (by kernel_rfl) (by kernel_rfl) (by kernel_rfl) (fun _ _ _ h => h) (Or.inl ⟨by rfl, fun _ _ => by rfl⟩) trivial ?_
            simp only [Act.put, List.setIfInBounds_toArray, List.set_cons_zero, List.set_cons_succ]
            refine wpAnyH_take (i := 1) (oi := ⟨some 82, .move (.tmp 8), 25, "free.go:45", #[], none⟩) (v := (.pointer (some ⟨tw, 0, none⟩))) rfl (by kernel_rfl) (by kernel_rfl) (by kernel_rfl) (fun _ _ _ h => h) (Or.inl ⟨by rfl, fun _ _ => by rfl⟩) trivial ?_
            simp only [Act.put, List.setIfInBounds_toArray, List.set_cons_zero, List.set_cons_succ]
            refine wpAnyH_take (i := 2) (oi := ⟨some 83, .nilCheck (.tmp 82), 0, "free.go:45", #[⟨1, .data⟩], none⟩) (v := (.pointer (some ⟨tw, 0, none⟩))) rfl (by kernel_rfl) (by kernel_rfl) (by kernel_rfl) (fun _ _ _ h => h) (Or.inl ⟨by rfl, fun _ _ => by rfl⟩) trivial ?_
            simp only [Act.put, List.setIfInBounds_toArray, List.set_cons_zero, List.set_cons_succ]
            refine wpAnyH_take (i := 3) (oi := ⟨some 84, .fieldAddr 42 (.tmp 83) 4, 0, "free.go:45", #[⟨2, .data⟩], none⟩) (v := (.pointer (some ⟨tw, 4, none⟩))) rfl (by kernel_rfl) (by kernel_rfl) (by kernel_rfl) (fun _ _ _ h => h) (Or.inl ⟨by rfl, fun _ _ => by rfl⟩) trivial ?_
            simp only [Act.put, List.setIfInBounds_toArray, List.set_cons_zero, List.set_cons_succ]
            refine wpAnyH_ready (rs := [4, 5]) (by kernel_rfl) (by simp) ?_
            refine AllReadyH.cons (o := ⟨some 85, .load 33 (.tmp 84), 33, "free.go:45", #[⟨3, .data⟩], none⟩) rfl (fun KK hK => ?_) (AllReadyH.cons (o := ⟨some 86, .call ⟨.value (.func 28), #[.const (.slice none 0 0)], #[56]⟩, 56, "free.go:45", #[], none⟩) rfl (fun KK hK => ?_) (AllReadyH.nil))
            · go_simp
              refine hK.out _ _ trivial (fun hHeld => ?_)
              clear hK KK hHeld
              try simp only [Act.put, List.setIfInBounds_toArray, List.set_cons_zero, List.set_cons_succ]
              refine wpAnyH_ready (rs := [5]) (by kernel_rfl) (by simp) ?_
              refine AllReadyH.cons (o := ⟨some 86, .call ⟨.value (.func 28), #[.const (.slice none 0 0)], #[56]⟩, 56, "free.go:45", #[], none⟩) rfl (fun KK hK => ?_) (AllReadyH.nil)
              go_simp
              refine (block7 none 0 0 [] W6.drew (by omega) (Lies.nil _)).mono ?_
              rintro e w7 ⟨g7, c7, rfl, o7, b7⟩
              replace b7 := Below.fromDrew b7
              have T7 := T6.kp (Kp.below b7)
              have u4 : w7.cell? ⟨tw, 4, none⟩ = some wv := by simp [World.cell?, T7.box]
              have u4a : ∀ o, (w7.alloc o).cell? ⟨tw, 4, none⟩ = some wv := fun o => by
                have := (Below.heap_alloc w7 o tw (heap_lt T7.box)).trans T7.box
                simp [World.cell?, this]
              go_wp2_with fail
              refine hK.out _ _ trivial (fun hHeld => ?_)
              clear hK KK hHeld
              try simp only [Act.put, List.setIfInBounds_toArray, List.set_cons_zero, List.set_cons_succ]
              refine wpAnyH_ready (rs := [6]) (by kernel_rfl) (by simp) ?_
              refine AllReadyH.cons (o := ⟨some 87, .buildSlice 33 1 #[(0, .tmp 86)], 33, "free.go:45", #[⟨5, .data⟩], none⟩) rfl (fun KK hK => ?_) (AllReadyH.nil)
              go_simp
              refine hK.out _ _ trivial (fun hHeld => ?_)
              clear hK KK hHeld
              try simp only [Act.put, List.setIfInBounds_toArray, List.set_cons_zero, List.set_cons_succ]
              refine wpAnyH_ready (rs := [7]) (by kernel_rfl) (by simp) ?_
              refine AllReadyH.cons (o := ⟨some 88, .call ⟨.builtin .append, #[.tmp 85, .tmp 87], #[33, 33]⟩, 33, "free.go:45", #[⟨4, .data⟩, ⟨6, .data⟩, ⟨5, .chain⟩], none⟩) rfl (fun KK hK => ?_) (AllReadyH.nil)
              have rw7 : w7.ownsRow 0 56 1 wv L (xs.map It.val) := by
                have := T7.x.row
                rwa [hxl] at this
              refine step_append_lies _ rfl _ _ 33 rfl 0 56 i1 (.slice none 0 0) 1 24 Tryz.underlying33 ki kz0 kz1 kz2 rfl (by decide) wv L _ rfl (rw7.alloc _) ⟨w7.heap.size, 0, none⟩ 1 1 [.slice (some ⟨g7, 0, none⟩) 512 c7] rfl rfl (cell_one7 _ _ _) (by intro u hu; simp at hu; subst hu; rfl) (by decide) (by unfold maxLen; omega) (by omega) (by omega) _ rfl ?_
              intro g8 c8 w8 ho8 hg8 hat8 hlt8
              have X8 := T7.grow2 hg8
              have z4 : w8.cell? ⟨tw, 4, none⟩ = some wv := by simp [World.cell?, X8]
              have zf8 : w8.frozen? ⟨tw, 4, none⟩ = false := by simp [World.frozen?, X8]
              refine hK.out _ _ trivial (fun hHeld => ?_)
              clear hK KK hHeld
              try simp only [Act.put, List.setIfInBounds_toArray, List.set_cons_zero, List.set_cons_succ]
              refine wpAnyH_take (i := 8) (oi := ⟨some 89, .nilCheck (.tmp 81), 0, "free.go:45", #[⟨0, .data⟩, ⟨0, .phase⟩, ⟨1, .phase⟩, ⟨2, .phase⟩, ⟨3, .phase⟩, ⟨4, .phase⟩, ⟨5, .phase⟩, ⟨6, .phase⟩, ⟨7, .phase⟩], none⟩) (v := (.pointer (some ⟨tw, 0, none⟩))) rfl (by kernel_rfl) (by kernel_rfl) (by kernel_rfl) (fun _ _ _ h => h) (Or.inl ⟨by rfl, fun _ _ => by rfl⟩) trivial ?_
              simp only [Act.put, List.setIfInBounds_toArray, List.set_cons_zero, List.set_cons_succ]
              refine wpAnyH_take (i := 9) (oi := ⟨some 90, .fieldAddr 42 (.tmp 89) 4, 0, "free.go:45", #[⟨8, .data⟩, ⟨0, .phase⟩, ⟨1, .phase⟩, ⟨2, .phase⟩, ⟨3, .phase⟩, ⟨4, .phase⟩, ⟨5, .phase⟩, ⟨6, .phase⟩, ⟨7, .phase⟩], none⟩) (v := (.pointer (some ⟨tw, 4, none⟩))) rfl (by kernel_rfl) (by kernel_rfl) (by kernel_rfl) (fun _ _ _ h => h) (Or.inl ⟨by rfl, fun _ _ => by rfl⟩) trivial ?_
              simp only [Act.put, List.setIfInBounds_toArray, List.set_cons_zero, List.set_cons_succ]
              refine wpAnyH_ready (rs := [10]) (by kernel_rfl) (by simp) ?_
              refine AllReadyH.cons (o := ⟨none, .store 33 (.tmp 90) (.tmp 88), 0, "free.go:45", #[⟨9, .data⟩, ⟨7, .data⟩, ⟨7, .chain⟩, ⟨0, .phase⟩, ⟨1, .phase⟩, ⟨2, .phase⟩, ⟨3, .phase⟩, ⟨4, .phase⟩, ⟨5, .phase⟩, ⟨6, .phase⟩, ⟨7, .phase⟩], none⟩) rfl (fun KK hK => ?_) (AllReadyH.nil)
              go_simp
              refine hK.out _ _ trivial (fun hHeld => ?_)
              clear hK KK hHeld
              try simp only [Act.put, List.setIfInBounds_toArray, List.set_cons_zero, List.set_cons_succ]
              refine wpAnyH_done (by kernel_rfl) ?_ _
              have HE := town_end D T B ltw lo lw ho HL.out hxl hxz hat5 T6 t6 o7 b7 ho8 hg8 hat8
              obtain ⟨W9, hW9⟩ : ∃ W9, w8.setCell ⟨tw, 4, none⟩ (.slice (some ⟨g8, 0, none⟩) (L + 1) c8) = W9 := ⟨_, rfl⟩
              rw [hW9] at HE
              try rw [hW9]
              clear hW9 z4 zf8 X8 ho8 hg8 hat8 hlt8 rw7 u4 u4a T7 o7 b7 T6 t6 hW6 y4d ho5 hg5 hat5 hlt5 T D
              go_wp2_with fail
              go_roundw
              case rel => exact ⟨b + 1, by omega, by simp, HE⟩
              case measure => simp [intOf]; omega
            · go_simp
              refine (block7 none 0 0 [] W6.drew (by omega) (Lies.nil _)).mono ?_
              rintro e w7 ⟨g7, c7, rfl, o7, b7⟩
              replace b7 := Below.fromDrew b7
              have T7 := T6.kp (Kp.below b7)
              have u4 : w7.cell? ⟨tw, 4, none⟩ = some wv := by simp [World.cell?, T7.box]
              have u4a : ∀ o, (w7.alloc o).cell? ⟨tw, 4, none⟩ = some wv := fun o => by
                have := (Below.heap_alloc w7 o tw (heap_lt T7.box)).trans T7.box
                simp [World.cell?, this]
              go_wp2_with fail
              refine hK.out _ _ trivial (fun hHeld => ?_)
              clear hK KK hHeld
              try simp only [Act.put, List.setIfInBounds_toArray, List.set_cons_zero, List.set_cons_succ]
              refine wpAnyH_ready (rs := [4, 6]) (by kernel_rfl) (by simp) ?_
              refine AllReadyH.cons (o := ⟨some 85, .load 33 (.tmp 84), 33, "free.go:45", #[⟨3, .data⟩], none⟩) rfl (fun KK hK => ?_) (AllReadyH.cons (o := ⟨some 87, .buildSlice 33 1 #[(0, .tmp 86)], 33, "free.go:45", #[⟨5, .data⟩], none⟩) rfl (fun KK hK => ?_) (AllReadyH.nil))
              · go_simp
                refine hK.out _ _ trivial (fun hHeld => ?_)
                clear hK KK hHeld
                try simp only [Act.put, List.setIfInBounds_toArray, List.set_cons_zero, List.set_cons_succ]
                refine wpAnyH_ready (rs := [6]) (by kernel_rfl) (by simp) ?_
                refine AllReadyH.cons (o := ⟨some 87, .buildSlice 33 1 #[(0, .tmp 86)], 33, "free.go:45", #[⟨5, .data⟩], none⟩) rfl (fun KK hK => ?_) (AllReadyH.nil)
                go_simp
                refine hK.out _ _ trivial (fun hHeld => ?_)
                clear hK KK hHeld
                try simp only [Act.put, List.setIfInBounds_toArray, List.set_cons_zero, List.set_cons_succ]
                refine wpAnyH_ready (rs := [7]) (by kernel_rfl) (by simp) ?_
                refine AllReadyH.cons (o := ⟨some 88, .call ⟨.builtin .append, #[.tmp 85, .tmp 87], #[33, 33]⟩, 33, "free.go:45", #[⟨4, .data⟩, ⟨6, .data⟩, ⟨5, .chain⟩], none⟩) rfl (fun KK hK => ?_) (AllReadyH.nil)
                have rw7 : w7.ownsRow 0 56 1 wv L (xs.map It.val) := by
                  have := T7.x.row
                  rwa [hxl] at this
                refine step_append_lies _ rfl _ _ 33 rfl 0 56 i1 (.slice none 0 0) 1 24 Tryz.underlying33 ki kz0 kz1 kz2 rfl (by decide) wv L _ rfl (rw7.alloc _) ⟨w7.heap.size, 0, none⟩ 1 1 [.slice (some ⟨g7, 0, none⟩) 512 c7] rfl rfl (cell_one7 _ _ _) (by intro u hu; simp at hu; subst hu; rfl) (by decide) (by unfold maxLen; omega) (by omega) (by omega) _ rfl ?_
                intro g8 c8 w8 ho8 hg8 hat8 hlt8
                have X8 := T7.grow2 hg8
                have z4 : w8.cell? ⟨tw, 4, none⟩ = some wv := by simp [World.cell?, X8]
                have zf8 : w8.frozen? ⟨tw, 4, none⟩ = false := by simp [World.frozen?, X8]
                refine hK.out _ _ trivial (fun hHeld => ?_)
                clear hK KK hHeld
                try simp only [Act.put, List.setIfInBounds_toArray, List.set_cons_zero, List.set_cons_succ]
                refine wpAnyH_take (i := 8) (oi := ⟨some 89, .nilCheck (.tmp 81), 0, "free.go:45", #[⟨0, .data⟩, ⟨0, .phase⟩, ⟨1, .phase⟩, ⟨2, .phase⟩, ⟨3, .phase⟩, ⟨4, .phase⟩, ⟨5, .phase⟩, ⟨6, .phase⟩, ⟨7, .phase⟩], none⟩) (v := (.pointer (some ⟨tw, 0, none⟩))) rfl (by kernel_rfl) (by kernel_rfl) (by kernel_rfl) (fun _ _ _ h => h) (Or.inl ⟨by rfl, fun _ _ => by rfl⟩) trivial ?_
                simp only [Act.put, List.setIfInBounds_toArray, List.set_cons_zero, List.set_cons_succ]
                refine wpAnyH_take (i := 9) (oi := ⟨some 90, .fieldAddr 42 (.tmp 89) 4, 0, "free.go:45", #[⟨8, .data⟩, ⟨0, .phase⟩, ⟨1, .phase⟩, ⟨2, .phase⟩, ⟨3, .phase⟩, ⟨4, .phase⟩, ⟨5, .phase⟩, ⟨6, .phase⟩, ⟨7, .phase⟩], none⟩) (v := (.pointer (some ⟨tw, 4, none⟩))) rfl (by kernel_rfl) (by kernel_rfl) (by kernel_rfl) (fun _ _ _ h => h) (Or.inl ⟨by rfl, fun _ _ => by rfl⟩) trivial ?_
                simp only [Act.put, List.setIfInBounds_toArray, List.set_cons_zero, List.set_cons_succ]
                refine wpAnyH_ready (rs := [10]) (by kernel_rfl) (by simp) ?_
                refine AllReadyH.cons (o := ⟨none, .store 33 (.tmp 90) (.tmp 88), 0, "free.go:45", #[⟨9, .data⟩, ⟨7, .data⟩, ⟨7, .chain⟩, ⟨0, .phase⟩, ⟨1, .phase⟩, ⟨2, .phase⟩, ⟨3, .phase⟩, ⟨4, .phase⟩, ⟨5, .phase⟩, ⟨6, .phase⟩, ⟨7, .phase⟩], none⟩) rfl (fun KK hK => ?_) (AllReadyH.nil)
                go_simp
                refine hK.out _ _ trivial (fun hHeld => ?_)
                clear hK KK hHeld
                try simp only [Act.put, List.setIfInBounds_toArray, List.set_cons_zero, List.set_cons_succ]
                refine wpAnyH_done (by kernel_rfl) ?_ _
                have HE := town_end D T B ltw lo lw ho HL.out hxl hxz hat5 T6 t6 o7 b7 ho8 hg8 hat8
                obtain ⟨W9, hW9⟩ : ∃ W9, w8.setCell ⟨tw, 4, none⟩ (.slice (some ⟨g8, 0, none⟩) (L + 1) c8) = W9 := ⟨_, rfl⟩
                rw [hW9] at HE
                try rw [hW9]
                clear hW9 z4 zf8 X8 ho8 hg8 hat8 hlt8 rw7 u4 u4a T7 o7 b7 T6 t6 hW6 y4d ho5 hg5 hat5 hlt5 T D
                go_wp2_with fail
                go_roundw
                case rel => exact ⟨b + 1, by omega, by simp, HE⟩
                case measure => simp [intOf]; omega
              · go_simp
                refine hK.out _ _ trivial (fun hHeld => ?_)
                clear hK KK hHeld
                try simp only [Act.put, List.setIfInBounds_toArray, List.set_cons_zero, List.set_cons_succ]
                refine wpAnyH_ready (rs := [4]) (by kernel_rfl) (by simp) ?_
                refine AllReadyH.cons (o := ⟨some 85, .load 33 (.tmp 84), 33, "free.go:45", #[⟨3, .data⟩], none⟩) rfl (fun KK hK => ?_) (AllReadyH.nil)
                go_simp
                refine hK.out _ _ trivial (fun hHeld => ?_)
                clear hK KK hHeld
                try simp only [Act.put, List.setIfInBounds_toArray, List.set_cons_zero, List.set_cons_succ]
                refine wpAnyH_ready (rs := [7]) (by kernel_rfl) (by simp) ?_
                refine AllReadyH.cons (o := ⟨some 88, .call ⟨.builtin .append, #[.tmp 85, .tmp 87], #[33, 33]⟩, 33, "free.go:45", #[⟨4, .data⟩, ⟨6, .data⟩, ⟨5, .chain⟩], none⟩) rfl (fun KK hK => ?_) (AllReadyH.nil)
                have rw7 : w7.ownsRow 0 56 1 wv L (xs.map It.val) := by
                  have := T7.x.row
                  rwa [hxl] at this
                refine step_append_lies _ rfl _ _ 33 rfl 0 56 i1 (.slice none 0 0) 1 24 Tryz.underlying33 ki kz0 kz1 kz2 rfl (by decide) wv L _ rfl (rw7.alloc _) ⟨w7.heap.size, 0, none⟩ 1 1 [.slice (some ⟨g7, 0, none⟩) 512 c7] rfl rfl (cell_one7 _ _ _) (by intro u hu; simp at hu; subst hu; rfl) (by decide) (by unfold maxLen; omega) (by omega) (by omega) _ rfl ?_
                intro g8 c8 w8 ho8 hg8 hat8 hlt8
                have X8 := T7.grow2 hg8
                have z4 : w8.cell? ⟨tw, 4, none⟩ = some wv := by simp [World.cell?, X8]
                have zf8 : w8.frozen? ⟨tw, 4, none⟩ = false := by simp [World.frozen?, X8]
                refine hK.out _ _ trivial (fun hHeld => ?_)
                clear hK KK hHeld
                try simp only [Act.put, List.setIfInBounds_toArray, List.set_cons_zero, List.set_cons_succ]
                refine wpAnyH_take (i := 8) (oi := ⟨some 89, .nilCheck (.tmp 81), 0, "free.go:45", #[⟨0, .data⟩, ⟨0, .phase⟩, ⟨1, .phase⟩, ⟨2, .phase⟩, ⟨3, .phase⟩, ⟨4, .phase⟩, ⟨5, .phase⟩, ⟨6, .phase⟩, ⟨7, .phase⟩], none⟩) (v := (.pointer (some ⟨tw, 0, none⟩))) rfl (by kernel_rfl) (by kernel_rfl) (by kernel_rfl) (fun _ _ _ h => h) (Or.inl ⟨by rfl, fun _ _ => by rfl⟩) trivial ?_
                simp only [Act.put, List.setIfInBounds_toArray, List.set_cons_zero, List.set_cons_succ]
                refine wpAnyH_take (i := 9) (oi := ⟨some 90, .fieldAddr 42 (.tmp 89) 4, 0, "free.go:45", #[⟨8, .data⟩, ⟨0, .phase⟩, ⟨1, .phase⟩, ⟨2, .phase⟩, ⟨3, .phase⟩, ⟨4, .phase⟩, ⟨5, .phase⟩, ⟨6, .phase⟩, ⟨7, .phase⟩], none⟩) (v := (.pointer (some ⟨tw, 4, none⟩))) rfl (by kernel_rfl) (by kernel_rfl) (by kernel_rfl) (fun _ _ _ h => h) (Or.inl ⟨by rfl, fun _ _ => by rfl⟩) trivial ?_
                simp only [Act.put, List.setIfInBounds_toArray, List.set_cons_zero, List.set_cons_succ]
                refine wpAnyH_ready (rs := [10]) (by kernel_rfl) (by simp) ?_
                refine AllReadyH.cons (o := ⟨none, .store 33 (.tmp 90) (.tmp 88), 0, "free.go:45", #[⟨9, .data⟩, ⟨7, .data⟩, ⟨7, .chain⟩, ⟨0, .phase⟩, ⟨1, .phase⟩, ⟨2, .phase⟩, ⟨3, .phase⟩, ⟨4, .phase⟩, ⟨5, .phase⟩, ⟨6, .phase⟩, ⟨7, .phase⟩], none⟩) rfl (fun KK hK => ?_) (AllReadyH.nil)
                go_simp
                refine hK.out _ _ trivial (fun hHeld => ?_)
                clear hK KK hHeld
                try simp only [Act.put, List.setIfInBounds_toArray, List.set_cons_zero, List.set_cons_succ]
                refine wpAnyH_done (by kernel_rfl) ?_ _
                have HE := town_end D T B ltw lo lw ho HL.out hxl hxz hat5 T6 t6 o7 b7 ho8 hg8 hat8
                obtain ⟨W9, hW9⟩ : ∃ W9, w8.setCell ⟨tw, 4, none⟩ (.slice (some ⟨g8, 0, none⟩) (L + 1) c8) = W9 := ⟨_, rfl⟩
                rw [hW9] at HE
                try rw [hW9]
                clear hW9 z4 zf8 X8 ho8 hg8 hat8 hlt8 rw7 u4 u4a T7 o7 b7 T6 t6 hW6 y4d ho5 hg5 hat5 hlt5 T D
                go_wp2_with fail
                go_roundw
                case rel => exact ⟨b + 1, by omega, by simp, HE⟩
                case measure => simp [intOf]; omega
        · have ho2 : ¬ b < 2 ∧ b < 32 := by
            simp [outB7] at ho; omega
          have hb2i : ¬ (b : Int) < 2 := by omega
          have h32i : ¬ (32 : Int) ≤ b := by omega
          have HE : TR w G tw db (b + 1) w4 := by
            have e : outs (b + 1) = outs b := by rw [outs_succ]; simp [ho]
            exact ⟨ov, wv, xs, D, by rw [e]; exact T, by rw [e]; exact hxl, hxz, lo, lw, B⟩
          clear D T hxl
          go_wp2_with fail
          go_roundw
          case rel => exact ⟨b + 1, by omega, by simp, HE⟩
          case measure => simp [intOf]; omega
      · have hb40 : b = 40 := by omega
        subst hb40
        have HT : Hid (Dev w4 db 0 F40 40 30 G ∧ Tn w4 G tw db ov wv (outs 40) xs ∧ xs.length = 10) := ⟨D, T, by rw [hxl, outs_40]; rfl⟩
        clear D T hxl
        go_wp2_with fail
        refine (num7 0 w4).mono ?_
        rintro e w5 ⟨rfl, rfl⟩
        go_wp2_with fail
        obtain ⟨Dz, Tz, lz⟩ := HT.out
        refine bodyPost_ret (results_tmp2 rfl _ _ _) rfl ?_
        exact ⟨tw, db, 30, G, ov, wv, xs, rfl, Dz, by omega, fun i hi => (f3 i hi).1, Tz, lz, hxz, ltw, lo, B⟩
  have c5 : n - sz < st := by omega
  go_enter Tryz.func10, Tryz.ntmps10
  go_wp2_with fail
  refine (new_good 40 w (by omega) (by omega)).mono ?_
  rintro e w1 ⟨db, rfl, D1, b1⟩
  replace D1 : Dev w1 db 0 S40 40 0 (grow (fun _ => False) w w1) := D1
  obtain ⟨W2, hW2⟩ : ∃ W, w1.alloc (.cells #[.pointer (some ⟨db, 0, none⟩), .int .i64 2, .int .i64 30, .slice none 0 0, .slice none 0 0] 42) = W := ⟨_, rfl⟩
  have b2 : Below w1.heap.size w1 W2 := by rw [← hW2]; exact (Below.refl _ w1).alloc (Nat.le_refl _) _
  have s2 : W2.heap.size = w1.heap.size + 1 := by rw [← hW2]; simp
  have X2 : W2.heap[w1.heap.size]? = some (.cells #[.pointer (some ⟨db, 0, none⟩), .int .i64 2, .int .i64 30, .slice none 0 0, .slice none 0 0] 42) := by rw [← hW2]; exact (MapKept.heap_alloc w1 _).1
  have D2 := D1.below b2
  obtain ⟨tw, htw⟩ : ∃ tw, w1.heap.size = tw := ⟨_, rfl⟩
  rw [htw] at X2
  have q0 : W2.cell? ⟨tw, 0, none⟩ = some (.pointer (some ⟨db, 0, none⟩)) := by simp [World.cell?, X2]
  go_wp2_with fail
  try rw [hW2]
  try rw [htw]
  refine (format40 D2 (by omega)).mono ?_
  rintro e w3 ⟨rfl, D3, t3⟩
  have sb1 := b1.size
  have f1 : ∀ i, grow (fun _ => False) w w1 i → w.heap.size ≤ i ∧ i < w1.heap.size := fun i hi => hi.elim False.elim (fun r => r)
  have X3 := (t3.block tw (heap_lt X2) (fun r => by have := f1 tw r; omega)).trans X2
  have b02 : Below w.heap.size w W2 := b1.trans (b2.mono b1.size)
  have B3 : Below w.heap.size w w3 := b02.trans (t3.below (fun i r => (f1 i r).1) b02.size)
  have f3 : ∀ i, grow (grow (fun _ => False) w w1) W2 w3 i → w.heap.size ≤ i ∧ i ≠ tw := fun i hi => hi.elim (fun r => ⟨(f1 i r).1, by have := f1 i r; omega⟩) (fun r => ⟨by omega, by omega⟩)
  generalize grow (grow (fun _ => False) w w1) W2 w3 = G at D3 f3
  have hGl := D3.lt
  have T3 : Tn w3 G tw db (.slice none 0 0) (.slice none 0 0) (outs 0) [] := ⟨X3, ⟨⟨rfl, Or.inl ⟨rfl, rfl⟩⟩, (fun b hb => by cases hb)⟩, ⟨⟨rfl, Or.inl ⟨rfl, rfl⟩⟩, (fun b hb => by cases hb), (fun x hx => by cases hx)⟩, fun r => (f3 tw r).2 rfl⟩
  have ltw : w.heap.size ≤ tw := by omega
  clear D1 D2 t3 q0 X2 X3 hW2 f1
  go_wp2_with fail
  go_loopw [10] (fun i wr => ∃ (b : Nat), b ≤ 40 ∧ i = .int .i64 b ∧ TR w G tw db b wr) (fun i _ => 40 - (intOf i).toNat)
  case atStart => exact ⟨0, by omega, rfl, _, _, [], D3, T3, rfl, (fun x hx => by cases hx), (fun c hc => by cases hc), (fun c hc => by cases hc), B3⟩
  case round =>
    clear D3 T3 B3
    obtain ⟨b, hb, rfl, ov, wv, xs, D, T, hxl, hxz, lo, lw, B⟩ := hrel
    obtain ⟨w4, hw4⟩ : ∃ w4, w4 = wr := ⟨wr, rfl⟩
    subst hw4
    by_cases hlt : b < 40
    · have hbi : (b : Int) < 40 := by omega
      by_cases ho : outB7 b = true
      · have y3 : w4.cell? ⟨tw, 3, none⟩ = some ov := by simp [World.cell?, T.box]
        have y4 : w4.cell? ⟨tw, 4, none⟩ = some wv := by simp [World.cell?, T.box]
        have r3 := T.o.row
        have ol := outs_le b
        have s4 := B.size
        have tl := heap_lt T.box
        have hD4 := D.lt
        obtain ⟨L, hL⟩ : ∃ L, (outs b).length = L := ⟨_, rfl⟩
        have HL : Hid ((outs b).length = L) := hL
        rw [hL] at r3 ol hxl
        clear hL
        by_cases hb2 : b < 2
        · have hb2i : (b : Int) < 2 := by omega
          go_wp2_with (first
            | (at_builtin; refine wpList_append_lies _ rfl _ _ 40 rfl 0 3 i0 (.int .i64 0) 1 8 Tryz.underlying40 hi hz0 hz1 hz2 rfl (by decide) ov L _ rfl (r3.alloc _) ⟨w4.heap.size, 0, none⟩ 1 1 [.int .i64 (b : Nat)] rfl rfl (cell_one7 _ _ _) (by intro u hu; simp at hu; subst hu; rfl) (by decide) (by unfold maxLen; omega) (by omega) (by omega) _ rfl ?_; intro g5 c5 w5 ho5 hg5 hat5 hlt5; have T5 := T.grow1 tl r3 hg5; have z3 : w5.cell? ⟨tw, 3, none⟩ = some ov := by { simp [World.cell?, T5.box] }; have zf : w5.frozen? ⟨tw, 3, none⟩ = false := by { simp [World.frozen?, T5.box] }))
          have hN6 := T.out HL.out D.lt ho5 hg5 hat5
          obtain ⟨W6, hW6⟩ : ∃ W6, w5.setCell ⟨tw, 3, none⟩ (.slice (some ⟨g5, 0, none⟩) (L + 1) c5) = W6 := ⟨_, rfl⟩
          rw [hW6] at hN6
          try rw [hW6]
          obtain ⟨T6, t6⟩ := hN6
          have y4d : W6.drew.cell? ⟨tw, 4, none⟩ = some wv := by
            have : W6.drew.heap[tw]? = _ := T6.box
            simp [World.cell?, this]
          clear z3 zf T5 y3 y4
          refine wp_region_held_drew (S := fun _ => True) (by kernel_rfl) trivial (fun hHeld => ?_)
          clear hHeld
          refine wpAnyH_take (i := 0) (oi := ⟨some 81, .move (.tmp 8), 25, "free.go:45", #[], none⟩) (v := (.pointer (some ⟨tw, 0, none⟩))) rfl (by kernel_rfl) (by kernel_rfl) (by kernel_rfl) (fun _ _ _ h => h) (Or.inl ⟨by rfl, fun _ _ => by rfl⟩) trivial ?_
          simp only [Act.put, List.setIfInBounds_toArray, List.set_cons_zero, List.set_cons_succ]
          refine wpAnyH_take (i := 1) (oi := ⟨some 82, .move (.tmp 8), 25, "free.go:45", #[], none⟩) (v := (.pointer (some ⟨tw, 0, none⟩))) rfl (by kernel_rfl) (by kernel_rfl) (by kernel_rfl) (fun _ _ _ h => h) (Or.inl ⟨by rfl, fun _ _ => by rfl⟩) trivial ?_
          simp only [Act.put, List.setIfInBounds_toArray, List.set_cons_zero, List.set_cons_succ]
          refine wpAnyH_take (i := 2) (oi := ⟨some 83, .nilCheck (.tmp 82), 0, "free.go:45", #[⟨1, .data⟩], none⟩) (v := (.pointer (some ⟨tw, 0, none⟩))) rfl (by kernel_rfl) (by kernel_rfl) (by kernel_rfl) (fun _ _ _ h => h) (Or.inl ⟨by rfl, fun _ _ => by rfl⟩) trivial ?_
          simp only [Act.put, List.setIfInBounds_toArray, List.set_cons_zero, List.set_cons_succ]
          refine wpAnyH_take (i := 3) (oi := ⟨some 84, .fieldAddr 42 (.tmp 83) 4, 0, "free.go:45", #[⟨2, .data⟩], none⟩) (v := (.pointer (some ⟨tw, 4, none⟩))) rfl (by kernel_rfl) (by kernel_rfl) (by kernel_rfl) (fun _ _ _ h => h) (Or.inl ⟨by rfl, fun _ _ => by rfl⟩) trivial ?_
          simp only [Act.put, List.setIfInBounds_toArray, List.set_cons_zero, List.set_cons_succ]
          refine wpAnyH_ready (rs := [4, 5]) (by kernel_rfl) (by simp) ?_
          refine AllReadyH.cons (o := ⟨some 85, .load 33 (.tmp 84), 33, "free.go:45", #[⟨3, .data⟩], none⟩) rfl (fun KK hK => ?_) (AllReadyH.cons (o := ⟨some 86, .call ⟨.value (.func 28), #[.const (.slice none 0 0)], #[56]⟩, 56, "free.go:45", #[], none⟩) rfl (fun KK hK => ?_) (AllReadyH.nil))
          · go_simp
            refine hK.out _ _ trivial (fun hHeld => ?_)
            clear hK KK hHeld
            try simp only [Act.put, List.setIfInBounds_toArray, List.set_cons_zero, List.set_cons_succ]
            refine wpAnyH_ready (rs := [5]) (by kernel_rfl) (by simp) ?_
            refine AllReadyH.cons (o := ⟨some 86, .call ⟨.value (.func 28), #[.const (.slice none 0 0)], #[56]⟩, 56, "free.go:45", #[], none⟩) rfl (fun KK hK => ?_) (AllReadyH.nil)
            go_simp
            refine (block7 none 0 0 [] W6.drew (by omega) (Lies.nil _)).mono ?_
            rintro e w7 ⟨g7, c7, rfl, o7, b7⟩
            replace b7 := Below.fromDrew b7
            have T7 := T6.kp (Kp.below b7)
            have u4 : w7.cell? ⟨tw, 4, none⟩ = some wv := by simp [World.cell?, T7.box]
            have u4a : ∀ o, (w7.alloc o).cell? ⟨tw, 4, none⟩ = some wv := fun o => by
              have := (Below.heap_alloc w7 o tw (heap_lt T7.box)).trans T7.box
              simp [World.cell?, this]
            go_wp2_with fail
            refine hK.out _ _ trivial (fun hHeld => ?_)
            clear hK KK hHeld
            try simp only [Act.put, List.setIfInBounds_toArray, List.set_cons_zero, List.set_cons_succ]
            refine wpAnyH_ready (rs := [6]) (by kernel_rfl) (by simp) ?_
            refine AllReadyH.cons (o := ⟨some 87, .buildSlice 33 1 #[(0, .tmp 86)], 33, "free.go:45", #[⟨5, .data⟩], none⟩) rfl (fun KK hK => ?_) (AllReadyH.nil)
            go_simp
            refine hK.out _ _ trivial (fun hHeld => ?_)
            clear hK KK hHeld
            try simp only [Act.put, List.setIfInBounds_toArray, List.set_cons_zero, List.set_cons_succ]
            refine wpAnyH_ready (rs := [7]) (by kernel_rfl) (by simp) ?_
            refine AllReadyH.cons (o := ⟨some 88, .call ⟨.builtin .append, #[.tmp 85, .tmp 87], #[33, 33]⟩, 33, "free.go:45", #[⟨4, .data⟩, ⟨6, .data⟩, ⟨5, .chain⟩], none⟩) rfl (fun KK hK => ?_) (AllReadyH.nil)
            have rw7 : w7.ownsRow 0 56 1 wv L (xs.map It.val) := by
              have := T7.x.row
              rwa [hxl] at this
            refine step_append_lies _ rfl _ _ 33 rfl 0 56 i1 (.slice none 0 0) 1 24 Tryz.underlying33 ki kz0 kz1 kz2 rfl (by decide) wv L _ rfl (rw7.alloc _) ⟨w7.heap.size, 0, none⟩ 1 1 [.slice (some ⟨g7, 0, none⟩) 512 c7] rfl rfl (cell_one7 _ _ _) (by intro u hu; simp at hu; subst hu; rfl) (by decide) (by unfold maxLen; omega) (by omega) (by omega) _ rfl ?_
            intro g8 c8 w8 ho8 hg8 hat8 hlt8
            have X8 := T7.grow2 hg8
            have z4 : w8.cell? ⟨tw, 4, none⟩ = some wv := by simp [World.cell?, X8]
            have zf8 : w8.frozen? ⟨tw, 4, none⟩ = false := by simp [World.frozen?, X8]
            refine hK.out _ _ trivial (fun hHeld => ?_)
            clear hK KK hHeld
            try simp only [Act.put, List.setIfInBounds_toArray, List.set_cons_zero, List.set_cons_succ]
            refine wpAnyH_take (i := 8) (oi := ⟨some 89, .nilCheck (.tmp 81), 0, "free.go:45", #[⟨0, .data⟩, ⟨0, .phase⟩, ⟨1, .phase⟩, ⟨2, .phase⟩, ⟨3, .phase⟩, ⟨4, .phase⟩, ⟨5, .phase⟩, ⟨6, .phase⟩, ⟨7, .phase⟩], none⟩) (v := (.pointer (some ⟨tw, 0, none⟩))) rfl (by kernel_rfl) (by kernel_rfl) (by kernel_rfl) (fun _ _ _ h => h) (Or.inl ⟨by rfl, fun _ _ => by rfl⟩) trivial ?_
            simp only [Act.put, List.setIfInBounds_toArray, List.set_cons_zero, List.set_cons_succ]
            refine wpAnyH_take (i := 9) (oi := ⟨some 90, .fieldAddr 42 (.tmp 89) 4, 0, "free.go:45", #[⟨8, .data⟩, ⟨0, .phase⟩, ⟨1, .phase⟩, ⟨2, .phase⟩, ⟨3, .phase⟩, ⟨4, .phase⟩, ⟨5, .phase⟩, ⟨6, .phase⟩, ⟨7, .phase⟩], none⟩) (v := (.pointer (some ⟨tw, 4, none⟩))) rfl (by kernel_rfl) (by kernel_rfl) (by kernel_rfl) (fun _ _ _ h => h) (Or.inl ⟨by rfl, fun _ _ => by rfl⟩) trivial ?_
            simp only [Act.put, List.setIfInBounds_toArray, List.set_cons_zero, List.set_cons_succ]
            refine wpAnyH_ready (rs := [10]) (by kernel_rfl) (by simp) ?_
            refine AllReadyH.cons (o := ⟨none, .store 33 (.tmp 90) (.tmp 88), 0, "free.go:45", #[⟨9, .data⟩, ⟨7, .data⟩, ⟨7, .chain⟩, ⟨0, .phase⟩, ⟨1, .phase⟩, ⟨2, .phase⟩, ⟨3, .phase⟩, ⟨4, .phase⟩, ⟨5, .phase⟩, ⟨6, .phase⟩, ⟨7, .phase⟩], none⟩) rfl (fun KK hK => ?_) (AllReadyH.nil)
            go_simp
            refine hK.out _ _ trivial (fun hHeld => ?_)
            clear hK KK hHeld
            try simp only [Act.put, List.setIfInBounds_toArray, List.set_cons_zero, List.set_cons_succ]
            refine wpAnyH_done (by kernel_rfl) ?_ _
            have HE := town_end D T B ltw lo lw ho HL.out hxl hxz hat5 T6 t6 o7 b7 ho8 hg8 hat8
            obtain ⟨W9, hW9⟩ : ∃ W9, w8.setCell ⟨tw, 4, none⟩ (.slice (some ⟨g8, 0, none⟩) (L + 1) c8) = W9 := ⟨_, rfl⟩
            rw [hW9] at HE
            try rw [hW9]
            clear hW9 z4 zf8 X8 ho8 hg8 hat8 hlt8 rw7 u4 u4a T7 o7 b7 T6 t6 hW6 y4d ho5 hg5 hat5 hlt5 T D
            go_wp2_with fail
            go_roundw
            case rel => exact ⟨b + 1, by omega, by simp, HE⟩
            case measure => simp [intOf]; omega
          · go_simp
            refine (block7 none 0 0 [] W6.drew (by omega) (Lies.nil _)).mono ?_
            rintro e w7 ⟨g7, c7, rfl, o7, b7⟩
            replace b7 := Below.fromDrew b7
            have T7 := T6.kp (Kp.below b7)
            have u4 : w7.cell? ⟨tw, 4, none⟩ = some wv := by simp [World.cell?, T7.box]
            have u4a : ∀ o, (w7.alloc o).cell? ⟨tw, 4, none⟩ = some wv := fun o => by
              have := (Below.heap_alloc w7 o tw (heap_lt T7.box)).trans T7.box
              simp [World.cell?, this]
            go_wp2_with fail
            refine hK.out _ _ trivial (fun hHeld => ?_)
            clear hK KK hHeld
            try simp only [Act.put, List.setIfInBounds_toArray, List.set_cons_zero, List.set_cons_succ]
            refine wpAnyH_ready (rs := [4, 6]) (by kernel_rfl) (by simp) ?_
            refine AllReadyH.cons (o := ⟨some 85, .load 33 (.tmp 84), 33, "free.go:45", #[⟨3, .data⟩], none⟩) rfl (fun KK hK => ?_) (AllReadyH.cons (o := ⟨some 87, .buildSlice 33 1 #[(0, .tmp 86)], 33, "free.go:45", #[⟨5, .data⟩], none⟩) rfl (fun KK hK => ?_) (AllReadyH.nil))
            · go_simp
              refine hK.out _ _ trivial (fun hHeld => ?_)
              clear hK KK hHeld
              try simp only [Act.put, List.setIfInBounds_toArray, List.set_cons_zero, List.set_cons_succ]
              refine wpAnyH_ready (rs := [6]) (by kernel_rfl) (by simp) ?_
              refine AllReadyH.cons (o := ⟨some 87, .buildSlice 33 1 #[(0, .tmp 86)], 33, "free.go:45", #[⟨5, .data⟩], none⟩) rfl (fun KK hK => ?_) (AllReadyH.nil)
              go_simp
              refine hK.out _ _ trivial (fun hHeld => ?_)
              clear hK KK hHeld
              try simp only [Act.put, List.setIfInBounds_toArray, List.set_cons_zero, List.set_cons_succ]
              refine wpAnyH_ready (rs := [7]) (by kernel_rfl) (by simp) ?_
              refine AllReadyH.cons (o := ⟨some 88, .call ⟨.builtin .append, #[.tmp 85, .tmp 87], #[33, 33]⟩, 33, "free.go:45", #[⟨4, .data⟩, ⟨6, .data⟩, ⟨5, .chain⟩], none⟩) rfl (fun KK hK => ?_) (AllReadyH.nil)
              have rw7 : w7.ownsRow 0 56 1 wv L (xs.map It.val) := by
                have := T7.x.row
                rwa [hxl] at this
              refine step_append_lies _ rfl _ _ 33 rfl 0 56 i1 (.slice none 0 0) 1 24 Tryz.underlying33 ki kz0 kz1 kz2 rfl (by decide) wv L _ rfl (rw7.alloc _) ⟨w7.heap.size, 0, none⟩ 1 1 [.slice (some ⟨g7, 0, none⟩) 512 c7] rfl rfl (cell_one7 _ _ _) (by intro u hu; simp at hu; subst hu; rfl) (by decide) (by unfold maxLen; omega) (by omega) (by omega) _ rfl ?_
              intro g8 c8 w8 ho8 hg8 hat8 hlt8
              have X8 := T7.grow2 hg8
              have z4 : w8.cell? ⟨tw, 4, none⟩ = some wv := by simp [World.cell?, X8]
              have zf8 : w8.frozen? ⟨tw, 4, none⟩ = false := by simp [World.frozen?, X8]
              refine hK.out _ _ trivial (fun hHeld => ?_)
              clear hK KK hHeld
              try simp only [Act.put, List.setIfInBounds_toArray, List.set_cons_zero, List.set_cons_succ]
              refine wpAnyH_take (i := 8) (oi := ⟨some 89, .nilCheck (.tmp 81), 0, "free.go:45", #[⟨0, .data⟩, ⟨0, .phase⟩, ⟨1, .phase⟩, ⟨2, .phase⟩, ⟨3, .phase⟩, ⟨4, .phase⟩, ⟨5, .phase⟩, ⟨6, .phase⟩, ⟨7, .phase⟩], none⟩) (v := (.pointer (some ⟨tw, 0, none⟩))) rfl (by kernel_rfl) (by kernel_rfl) (by kernel_rfl) (fun _ _ _ h => h) (Or.inl ⟨by rfl, fun _ _ => by rfl⟩) trivial ?_
              simp only [Act.put, List.setIfInBounds_toArray, List.set_cons_zero, List.set_cons_succ]
              refine wpAnyH_take (i := 9) (oi := ⟨some 90, .fieldAddr 42 (.tmp 89) 4, 0, "free.go:45", #[⟨8, .data⟩, ⟨0, .phase⟩, ⟨1, .phase⟩, ⟨2, .phase⟩, ⟨3, .phase⟩, ⟨4, .phase⟩, ⟨5, .phase⟩, ⟨6, .phase⟩, ⟨7, .phase⟩], none⟩) (v := (.pointer (some ⟨tw, 4, none⟩))) rfl (by kernel_rfl) (by kernel_rfl) (by kernel_rfl) (fun _ _ _ h => h) (Or.inl ⟨by rfl, fun _ _ => by rfl⟩) trivial ?_
              simp only [Act.put, List.setIfInBounds_toArray, List.set_cons_zero, List.set_cons_succ]
              refine wpAnyH_ready (rs := [10]) (by kernel_rfl) (by simp) ?_
              refine AllReadyH.cons (o := ⟨none, .store 33 (.tmp 90) (.tmp 88), 0, "free.go:45", #[⟨9, .data⟩, ⟨7, .data⟩, ⟨7, .chain⟩, ⟨0, .phase⟩, ⟨1, .phase⟩, ⟨2, .phase⟩, ⟨3, .phase⟩, ⟨4, .phase⟩, ⟨5, .phase⟩, ⟨6, .phase⟩, ⟨7, .phase⟩], none⟩) rfl (fun KK hK => ?_) (AllReadyH.nil)
              go_simp
              refine hK.out _ _ trivial (fun hHeld => ?_)
              clear hK KK hHeld
              try simp only [Act.put, List.setIfInBounds_toArray, List.set_cons_zero, List.set_cons_succ]
              refine wpAnyH_done (by kernel_rfl) ?_ _
              have HE := town_end D T B ltw lo lw ho HL.out hxl hxz hat5 T6 t6 o7 b7 ho8 hg8 hat8
              obtain ⟨W9, hW9⟩ : ∃ W9, w8.setCell ⟨tw, 4, none⟩ (.slice (some ⟨g8, 0, none⟩) (L + 1) c8) = W9 := ⟨_, rfl⟩
              rw [hW9] at HE
              try rw [hW9]
              clear hW9 z4 zf8 X8 ho8 hg8 hat8 hlt8 rw7 u4 u4a T7 o7 b7 T6 t6 hW6 y4d ho5 hg5 hat5 hlt5 T D
              go_wp2_with fail
              go_roundw
              case rel => exact ⟨b + 1, by omega, by simp, HE⟩
              case measure => simp [intOf]; omega
            · go_simp
              refine hK.out _ _ trivial (fun hHeld => ?_)
              clear hK KK hHeld
              try simp only [Act.put, List.setIfInBounds_toArray, List.set_cons_zero, List.set_cons_succ]
              refine wpAnyH_ready (rs := [4]) (by kernel_rfl) (by simp) ?_
              refine AllReadyH.cons (o := ⟨some 85, .load 33 (.tmp 84), 33, "free.go:45", #[⟨3, .data⟩], none⟩) rfl (fun KK hK => ?_) (AllReadyH.nil)
              go_simp
              refine hK.out _ _ trivial (fun hHeld => ?_)
              clear hK KK hHeld
              try simp only [Act.put, List.setIfInBounds_toArray, List.set_cons_zero, List.set_cons_succ]
              refine wpAnyH_ready (rs := [7]) (by kernel_rfl) (by simp) ?_
              refine AllReadyH.cons (o := ⟨some 88, .call ⟨.builtin .append, #[.tmp 85, .tmp 87], #[33, 33]⟩, 33, "free.go:45", #[⟨4, .data⟩, ⟨6, .data⟩, ⟨5, .chain⟩], none⟩) rfl (fun KK hK => ?_) (AllReadyH.nil)
              have rw7 : w7.ownsRow 0 56 1 wv L (xs.map It.val) := by
                have := T7.x.row
                rwa [hxl] at this
              refine step_append_lies _ rfl _ _ 33 rfl 0 56 i1 (.slice none 0 0) 1 24 Tryz.underlying33 ki kz0 kz1 kz2 rfl (by decide) wv L _ rfl (rw7.alloc _) ⟨w7.heap.size, 0, none⟩ 1 1 [.slice (some ⟨g7, 0, none⟩) 512 c7] rfl rfl (cell_one7 _ _ _) (by intro u hu; simp at hu; subst hu; rfl) (by decide) (by unfold maxLen; omega) (by omega) (by omega) _ rfl ?_
              intro g8 c8 w8 ho8 hg8 hat8 hlt8
              have X8 := T7.grow2 hg8
              have z4 : w8.cell? ⟨tw, 4, none⟩ = some wv := by simp [World.cell?, X8]
              have zf8 : w8.frozen? ⟨tw, 4, none⟩ = false := by simp [World.frozen?, X8]
              refine hK.out _ _ trivial (fun hHeld => ?_)
              clear hK KK hHeld
              try simp only [Act.put, List.setIfInBounds_toArray, List.set_cons_zero, List.set_cons_succ]
              refine wpAnyH_take (i := 8) (oi := ⟨some 89, .nilCheck (.tmp 81), 0, "free.go:45", #[⟨0, .data⟩, ⟨0, .phase⟩, ⟨1, .phase⟩, ⟨2, .phase⟩, ⟨3, .phase⟩, ⟨4, .phase⟩, ⟨5, .phase⟩, ⟨6, .phase⟩, ⟨7, .phase⟩], none⟩) (v := (.pointer (some ⟨tw, 0, none⟩))) rfl (by kernel_rfl) (by kernel_rfl) (by kernel_rfl) (fun _ _ _ h => h) (Or.inl ⟨by rfl, fun _ _ => by rfl⟩) trivial ?_
              simp only [Act.put, List.setIfInBounds_toArray, List.set_cons_zero, List.set_cons_succ]
              refine wpAnyH_take (i := 9) (oi := ⟨some 90, .fieldAddr 42 (.tmp 89) 4, 0, "free.go:45", #[⟨8, .data⟩, ⟨0, .phase⟩, ⟨1, .phase⟩, ⟨2, .phase⟩, ⟨3, .phase⟩, ⟨4, .phase⟩, ⟨5, .phase⟩, ⟨6, .phase⟩, ⟨7, .phase⟩], none⟩) (v := (.pointer (some ⟨tw, 4, none⟩))) rfl (by kernel_rfl) (by kernel_rfl) (by kernel_rfl) (fun _ _ _ h => h) (Or.inl ⟨by rfl, fun _ _ => by rfl⟩) trivial ?_
              simp only [Act.put, List.setIfInBounds_toArray, List.set_cons_zero, List.set_cons_succ]
              refine wpAnyH_ready (rs := [10]) (by kernel_rfl) (by simp) ?_
              refine AllReadyH.cons (o := ⟨none, .store 33 (.tmp 90) (.tmp 88), 0, "free.go:45", #[⟨9, .data⟩, ⟨7, .data⟩, ⟨7, .chain⟩, ⟨0, .phase⟩, ⟨1, .phase⟩, ⟨2, .phase⟩, ⟨3, .phase⟩, ⟨4, .phase⟩, ⟨5, .phase⟩, ⟨6, .phase⟩, ⟨7, .phase⟩], none⟩) rfl (fun KK hK => ?_) (AllReadyH.nil)
              go_simp
              refine hK.out _ _ trivial (fun hHeld => ?_)
              clear hK KK hHeld
              try simp only [Act.put, List.setIfInBounds_toArray, List.set_cons_zero, List.set_cons_succ]
              refine wpAnyH_done (by kernel_rfl) ?_ _
              have HE := town_end D T B ltw lo lw ho HL.out hxl hxz hat5 T6 t6 o7 b7 ho8 hg8 hat8
              obtain ⟨W9, hW9⟩ : ∃ W9, w8.setCell ⟨tw, 4, none⟩ (.slice (some ⟨g8, 0, none⟩) (L + 1) c8) = W9 := ⟨_, rfl⟩
              rw [hW9] at HE
              try rw [hW9]
              clear hW9 z4 zf8 X8 ho8 hg8 hat8 hlt8 rw7 u4 u4a T7 o7 b7 T6 t6 hW6 y4d ho5 hg5 hat5 hlt5 T D
              go_wp2_with fail
              go_roundw
              case rel => exact ⟨b + 1, by omega, by simp, HE⟩
              case measure => simp [intOf]; omega
        · have h32 : 32 ≤ b := by
            simp [outB7] at ho; omega
          have hb2i : ¬ (b : Int) < 2 := by omega
          have h32i : (32 : Int) ≤ b := by omega
          go_wp2_with (first
            | (at_builtin; refine wpList_append_lies _ rfl _ _ 40 rfl 0 3 i0 (.int .i64 0) 1 8 Tryz.underlying40 hi hz0 hz1 hz2 rfl (by decide) ov L _ rfl (r3.alloc _) ⟨w4.heap.size, 0, none⟩ 1 1 [.int .i64 (b : Nat)] rfl rfl (cell_one7 _ _ _) (by intro u hu; simp at hu; subst hu; rfl) (by decide) (by unfold maxLen; omega) (by omega) (by omega) _ rfl ?_; intro g5 c5 w5 ho5 hg5 hat5 hlt5; have T5 := T.grow1 tl r3 hg5; have z3 : w5.cell? ⟨tw, 3, none⟩ = some ov := by { simp [World.cell?, T5.box] }; have zf : w5.frozen? ⟨tw, 3, none⟩ = false := by { simp [World.frozen?, T5.box] }))
          have hN6 := T.out HL.out D.lt ho5 hg5 hat5
          obtain ⟨W6, hW6⟩ : ∃ W6, w5.setCell ⟨tw, 3, none⟩ (.slice (some ⟨g5, 0, none⟩) (L + 1) c5) = W6 := ⟨_, rfl⟩
          rw [hW6] at hN6
          try rw [hW6]
          obtain ⟨T6, t6⟩ := hN6
          have y4d : W6.drew.cell? ⟨tw, 4, none⟩ = some wv := by
            have : W6.drew.heap[tw]? = _ := T6.box
            simp [World.cell?, this]
          clear z3 zf T5 y3 y4
          refine wp_region_held_drew (S := fun _ => True) (by kernel_rfl) trivial (fun hHeld => ?_)
          clear hHeld
          refine wpAnyH_take (i := 0) (oi := ⟨some 81, .move (.tmp 8), 25, "free.go:45", #[], none⟩) (v := (.pointer (some ⟨tw, 0, none⟩))) rfl (by kernel_rfl) (by kernel_rfl) (by kernel_rfl) (fun _ _ _ h => h) (Or.inl ⟨by rfl, fun _ _ => by rfl⟩) trivial ?_
          simp only [Act.put, List.setIfInBounds_toArray, List.set_cons_zero, List.set_cons_succ]
          refine wpAnyH_take (i := 1) (oi := ⟨some 82, .move (.tmp 8), 25, "free.go:45", #[], none⟩) (v := (.pointer (some ⟨tw, 0, none⟩))) rfl (by kernel_rfl) (by kernel_rfl) (by kernel_rfl) (fun _ _ _ h => h) (Or.inl ⟨by rfl, fun _ _ => by rfl⟩) trivial ?_
          simp only [Act.put, List.setIfInBounds_toArray, List.set_cons_zero, List.set_cons_succ]
          refine wpAnyH_take (i := 2) (oi := ⟨some 83, .nilCheck (.tmp 82), 0, "free.go:45", #[⟨1, .data⟩], none⟩) (v := (.pointer (some ⟨tw, 0, none⟩))) rfl (by kernel_rfl) (by kernel_rfl) (by kernel_rfl) (fun _ _ _ h => h) (Or.inl ⟨by rfl, fun _ _ => by rfl⟩) trivial ?_
          simp only [Act.put, List.setIfInBounds_toArray, List.set_cons_zero, List.set_cons_succ]
          refine wpAnyH_take (i := 3) (oi := ⟨some 84, .fieldAddr 42 (.tmp 83) 4, 0, "free.go:45", #[⟨2, .data⟩], none⟩) (v := (.pointer (some ⟨tw, 4, none⟩))) rfl (by kernel_rfl) (by kernel_rfl) (by kernel_rfl) (fun _ _ _ h => h) (Or.inl ⟨by rfl, fun _ _ => by rfl⟩) trivial ?_
          simp only [Act.put, List.setIfInBounds_toArray, List.set_cons_zero, List.set_cons_succ]
          refine wpAnyH_ready (rs := [4, 5]) (by kernel_rfl) (by simp) ?_
          refine AllReadyH.cons (o := ⟨some 85, .load 33 (.tmp 84), 33, "free.go:45", #[⟨3, .data⟩], none⟩) rfl (fun KK hK => ?_) (AllReadyH.cons (o := ⟨some 86, .call ⟨.value (.func 28), #[.const (.slice none 0 0)], #[56]⟩, 56, "free.go:45", #[], none⟩) rfl (fun KK hK => ?_) (AllReadyH.nil))
          · go_simp
            refine hK.out _ _ trivial (fun hHeld => ?_)
            clear hK KK hHeld
            try simp only [Act.put, List.setIfInBounds_toArray, List.set_cons_zero, List.set_cons_succ]
            refine wpAnyH_ready (rs := [5]) (by kernel_rfl) (by simp) ?_
            refine AllReadyH.cons (o := ⟨some 86, .call ⟨.value (.func 28), #[.const (.slice none 0 0)], #[56]⟩, 56, "free.go:45", #[], none⟩) rfl (fun KK hK => ?_) (AllReadyH.nil)
            go_simp
            refine (block7 none 0 0 [] W6.drew (by omega) (Lies.nil _)).mono ?_
            rintro e w7 ⟨g7, c7, rfl, o7, b7⟩
            replace b7 := Below.fromDrew b7
            have T7 := T6.kp (Kp.below b7)
            have u4 : w7.cell? ⟨tw, 4, none⟩ = some wv := by simp [World.cell?, T7.box]
            have u4a : ∀ o, (w7.alloc o).cell? ⟨tw, 4, none⟩ = some wv := fun o => by
              have := (Below.heap_alloc w7 o tw (heap_lt T7.box)).trans T7.box
              simp [World.cell?, this]
            go_wp2_with fail
            refine hK.out _ _ trivial (fun hHeld => ?_)
            clear hK KK hHeld
            try simp only [Act.put, List.setIfInBounds_toArray, List.set_cons_zero, List.set_cons_succ]
            refine wpAnyH_ready (rs := [6]) (by kernel_rfl) (by simp) ?_
            refine AllReadyH.cons (o := ⟨some 87, .buildSlice 33 1 #[(0, .tmp 86)], 33, "free.go:45", #[⟨5, .data⟩], none⟩) rfl (fun KK hK => ?_) (AllReadyH.nil)
            go_simp
            refine hK.out _ _ trivial (fun hHeld => ?_)
            clear hK KK hHeld
            try simp only [Act.put, List.setIfInBounds_toArray, List.set_cons_zero, List.set_cons_succ]
            refine wpAnyH_ready (rs := [7]) (by kernel_rfl) (by simp) ?_
            refine AllReadyH.cons (o := ⟨some 88, .call ⟨.builtin .append, #[.tmp 85, .tmp 87], #[33, 33]⟩, 33, "free.go:45", #[⟨4, .data⟩, ⟨6, .data⟩, ⟨5, .chain⟩], none⟩) rfl (fun KK hK => ?_) (AllReadyH.nil)
            have rw7 : w7.ownsRow 0 56 1 wv L (xs.map It.val) := by
              have := T7.x.row
              rwa [hxl] at this
            refine step_append_lies _ rfl _ _ 33 rfl 0 56 i1 (.slice none 0 0) 1 24 Tryz.underlying33 ki kz0 kz1 kz2 rfl (by decide) wv L _ rfl (rw7.alloc _) ⟨w7.heap.size, 0, none⟩ 1 1 [.slice (some ⟨g7, 0, none⟩) 512 c7] rfl rfl (cell_one7 _ _ _) (by intro u hu; simp at hu; subst hu; rfl) (by decide) (by unfold maxLen; omega) (by omega) (by omega) _ rfl ?_
            intro g8 c8 w8 ho8 hg8 hat8 hlt8
            have X8 := T7.grow2 hg8
            have z4 : w8.cell? ⟨tw, 4, none⟩ = some wv := by simp [World.cell?, X8]
            have zf8 : w8.frozen? ⟨tw, 4, none⟩ = false := by simp [World.frozen?, X8]
            refine hK.out _ _ trivial (fun hHeld => ?_)
            clear hK KK hHeld
            try simp only [Act.put, List.setIfInBounds_toArray, List.set_cons_zero, List.set_cons_succ]
            refine wpAnyH_take (i := 8) (oi := ⟨some 89, .nilCheck (.tmp 81), 0, "free.go:45", #[⟨0, .data⟩, ⟨0, .phase⟩, ⟨1, .phase⟩, ⟨2, .phase⟩, ⟨3, .phase⟩, ⟨4, .phase⟩, ⟨5, .phase⟩, ⟨6, .phase⟩, ⟨7, .phase⟩], none⟩) (v := (.pointer (some ⟨tw, 0, none⟩))) rfl (by kernel_rfl) (by kernel_rfl) (by kernel_rfl) (fun _ _ _ h => h) (Or.inl ⟨by rfl, fun _ _ => by rfl⟩) trivial ?_
            simp only [Act.put, List.setIfInBounds_toArray, List.set_cons_zero, List.set_cons_succ]
            refine wpAnyH_take (i := 9) (oi := ⟨some 90, .fieldAddr 42 (.tmp 89) 4, 0, "free.go:45", #[⟨8, .data⟩, ⟨0, .phase⟩, ⟨1, .phase⟩, ⟨2, .phase⟩, ⟨3, .phase⟩, ⟨4, .phase⟩, ⟨5, .phase⟩, ⟨6, .phase⟩, ⟨7, .phase⟩], none⟩) (v := (.pointer (some ⟨tw, 4, none⟩))) rfl (by kernel_rfl) (by kernel_rfl) (by kernel_rfl) (fun _ _ _ h => h) (Or.inl ⟨by rfl, fun _ _ => by rfl⟩) trivial ?_
            simp only [Act.put, List.setIfInBounds_toArray, List.set_cons_zero, List.set_cons_succ]
            refine wpAnyH_ready (rs := [10]) (by kernel_rfl) (by simp) ?_
            refine AllReadyH.cons (o := ⟨none, .store 33 (.tmp 90) (.tmp 88), 0, "free.go:45", #[⟨9, .data⟩, ⟨7, .data⟩, ⟨7, .chain⟩, ⟨0, .phase⟩, ⟨1, .phase⟩, ⟨2, .phase⟩, ⟨3, .phase⟩, ⟨4, .phase⟩, ⟨5, .phase⟩, ⟨6, .phase⟩, ⟨7, .phase⟩], none⟩) rfl (fun KK hK => ?_) (AllReadyH.nil)
            go_simp
            refine hK.out _ _ trivial (fun hHeld => ?_)
            clear hK KK hHeld
            try simp only [Act.put, List.setIfInBounds_toArray, List.set_cons_zero, List.set_cons_succ]
            refine wpAnyH_done (by kernel_rfl) ?_ _
            have HE := town_end D T B ltw lo lw ho HL.out hxl hxz hat5 T6 t6 o7 b7 ho8 hg8 hat8
            obtain ⟨W9, hW9⟩ : ∃ W9, w8.setCell ⟨tw, 4, none⟩ (.slice (some ⟨g8, 0, none⟩) (L + 1) c8) = W9 := ⟨_, rfl⟩
            rw [hW9] at HE
            try rw [hW9]
            clear hW9 z4 zf8 X8 ho8 hg8 hat8 hlt8 rw7 u4 u4a T7 o7 b7 T6 t6 hW6 y4d ho5 hg5 hat5 hlt5 T D
            go_wp2_with fail
            go_roundw
            case rel => exact ⟨b + 1, by omega, by simp, HE⟩
            case measure => simp [intOf]; omega
          · go_simp
            refine (block7 none 0 0 [] W6.drew (by omega) (Lies.nil _)).mono ?_
            rintro e w7 ⟨g7, c7, rfl, o7, b7⟩
            replace b7 := Below.fromDrew b7
            have T7 := T6.kp (Kp.below b7)
            have u4 : w7.cell? ⟨tw, 4, none⟩ = some wv := by simp [World.cell?, T7.box]
            have u4a : ∀ o, (w7.alloc o).cell? ⟨tw, 4, none⟩ = some wv := fun o => by
              have := (Below.heap_alloc w7 o tw (heap_lt T7.box)).trans T7.box
              simp [World.cell?, this]
            go_wp2_with fail
            refine hK.out _ _ trivial (fun hHeld => ?_)
            clear hK KK hHeld
            try simp only [Act.put, List.setIfInBounds_toArray, List.set_cons_zero, List.set_cons_succ]
            refine wpAnyH_ready (rs := [4, 6]) (by kernel_rfl) (by simp) ?_
            refine AllReadyH.cons (o := ⟨some 85, .load 33 (.tmp 84), 33, "free.go:45", #[⟨3, .data⟩], none⟩) rfl (fun KK hK => ?_) (AllReadyH.cons (o := ⟨some 87, .buildSlice 33 1 #[(0, .tmp 86)], 33, "free.go:45", #[⟨5, .data⟩], none⟩) rfl (fun KK hK => ?_) (AllReadyH.nil))
            · go_simp
              refine hK.out _ _ trivial (fun hHeld => ?_)
              clear hK KK hHeld
              try simp only [Act.put, List.setIfInBounds_toArray, List.set_cons_zero, List.set_cons_succ]
              refine wpAnyH_ready (rs := [6]) (by kernel_rfl) (by simp) ?_
              refine AllReadyH.cons (o := ⟨some 87, .buildSlice 33 1 #[(0, .tmp 86)], 33, "free.go:45", #[⟨5, .data⟩], none⟩) rfl (fun KK hK => ?_) (AllReadyH.nil)
              go_simp
              refine hK.out _ _ trivial (fun hHeld => ?_)
              clear hK KK hHeld
              try simp only [Act.put, List.setIfInBounds_toArray, List.set_cons_zero, List.set_cons_succ]
              refine wpAnyH_ready (rs := [7]) (by kernel_rfl) (by simp) ?_
              refine AllReadyH.cons (o := ⟨some 88, .call ⟨.builtin .append, #[.tmp 85, .tmp 87], #[33, 33]⟩, 33, "free.go:45", #[⟨4, .data⟩, ⟨6, .data⟩, ⟨5, .chain⟩], none⟩) rfl (fun KK hK => ?_) (AllReadyH.nil)
              have rw7 : w7.ownsRow 0 56 1 wv L (xs.map It.val) := by
                have := T7.x.row
                rwa [hxl] at this
              refine step_append_lies _ rfl _ _ 33 rfl 0 56 i1 (.slice none 0 0) 1 24 Tryz.underlying33 ki kz0 kz1 kz2 rfl (by decide) wv L _ rfl (rw7.alloc _) ⟨w7.heap.size, 0, none⟩ 1 1 [.slice (some ⟨g7, 0, none⟩) 512 c7] rfl rfl (cell_one7 _ _ _) (by intro u hu; simp at hu; subst hu; rfl) (by decide) (by unfold maxLen; omega) (by omega) (by omega) _ rfl ?_
              intro g8 c8 w8 ho8 hg8 hat8 hlt8
              have X8 := T7.grow2 hg8
              have z4 : w8.cell? ⟨tw, 4, none⟩ = some wv := by simp [World.cell?, X8]
              have zf8 : w8.frozen? ⟨tw, 4, none⟩ = false := by simp [World.frozen?, X8]
              refine hK.out _ _ trivial (fun hHeld => ?_)
              clear hK KK hHeld
              try simp only [Act.put, List.setIfInBounds_toArray, List.set_cons_zero, List.set_cons_succ]
              refine wpAnyH_take (i := 8) (oi := ⟨some 89, .nilCheck (.tmp 81), 0, "free.go:45", #[⟨0, .data⟩, ⟨0, .phase⟩, ⟨1, .phase⟩, ⟨2, .phase⟩, ⟨3, .phase⟩, ⟨4, .phase⟩, ⟨5, .phase⟩, ⟨6, .phase⟩, ⟨7, .phase⟩], none⟩) (v := (.pointer (some ⟨tw, 0, none⟩))) rfl (by kernel_rfl) (by kernel_rfl) (by kernel_rfl) (fun _ _ _ h => h) (Or.inl ⟨by rfl, fun _ _ => by rfl⟩) trivial ?_
              simp only [Act.put, List.setIfInBounds_toArray, List.set_cons_zero, List.set_cons_succ]
              refine wpAnyH_take (i := 9) (oi := ⟨some 90, .fieldAddr 42 (.tmp 89) 4, 0, "free.go:45", #[⟨8, .data⟩, ⟨0, .phase⟩, ⟨1, .phase⟩, ⟨2, .phase⟩, ⟨3, .phase⟩, ⟨4, .phase⟩, ⟨5, .phase⟩, ⟨6, .phase⟩, ⟨7, .phase⟩], none⟩) (v := (.pointer (some ⟨tw, 4, none⟩))) rfl (by kernel_rfl) (by kernel_rfl) (by kernel_rfl) (fun _ _ _ h => h) (Or.inl ⟨by rfl, fun _ _ => by rfl⟩) trivial ?_
              simp only [Act.put, List.setIfInBounds_toArray, List.set_cons_zero, List.set_cons_succ]
              refine wpAnyH_ready (rs := [10]) (by kernel_rfl) (by simp) ?_
              refine AllReadyH.cons (o := ⟨none, .store 33 (.tmp 90) (.tmp 88), 0, "free.go:45", #[⟨9, .data⟩, ⟨7, .data⟩, ⟨7, .chain⟩, ⟨0, .phase⟩, ⟨1, .phase⟩, ⟨2, .phase⟩, ⟨3, .phase⟩, ⟨4, .phase⟩, ⟨5, .phase⟩, ⟨6, .phase⟩, ⟨7, .phase⟩], none⟩) rfl (fun KK hK => ?_) (AllReadyH.nil)
              go_simp
              refine hK.out _ _ trivial (fun hHeld => ?_)
              clear hK KK hHeld
              try simp only [Act.put, List.setIfInBounds_toArray, List.set_cons_zero, List.set_cons_succ]
              refine wpAnyH_done (by kernel_rfl) ?_ _
              have HE := town_end D T B ltw lo lw ho HL.out hxl hxz hat5 T6 t6 o7 b7 ho8 hg8 hat8
              obtain ⟨W9, hW9⟩ : ∃ W9, w8.setCell ⟨tw, 4, none⟩ (.slice (some ⟨g8, 0, none⟩) (L + 1) c8) = W9 := ⟨_, rfl⟩
              rw [hW9] at HE
              try rw [hW9]
              clear hW9 z4 zf8 X8 ho8 hg8 hat8 hlt8 rw7 u4 u4a T7 o7 b7 T6 t6 hW6 y4d ho5 hg5 hat5 hlt5 T D
              go_wp2_with fail
              go_roundw
              case rel => exact ⟨b + 1, by omega, by simp, HE⟩
              case measure => simp [intOf]; omega
            · go_simp
              refine hK.out _ _ trivial (fun hHeld => ?_)
              clear hK KK hHeld
              try simp only [Act.put, List.setIfInBounds_toArray, List.set_cons_zero, List.set_cons_succ]
              refine wpAnyH_ready (rs := [4]) (by kernel_rfl) (by simp) ?_
              refine AllReadyH.cons (o := ⟨some 85, .load 33 (.tmp 84), 33, "free.go:45", #[⟨3, .data⟩], none⟩) rfl (fun KK hK => ?_) (AllReadyH.nil)
              go_simp
              refine hK.out _ _ trivial (fun hHeld => ?_)
              clear hK KK hHeld
              try simp only [Act.put, List.setIfInBounds_toArray, List.set_cons_zero, List.set_cons_succ]
              refine wpAnyH_ready (rs := [7]) (by kernel_rfl) (by simp) ?_
              refine AllReadyH.cons (o := ⟨some 88, .call ⟨.builtin .append, #[.tmp 85, .tmp 87], #[33, 33]⟩, 33, "free.go:45", #[⟨4, .data⟩, ⟨6, .data⟩, ⟨5, .chain⟩], none⟩) rfl (fun KK hK => ?_) (AllReadyH.nil)
              have rw7 : w7.ownsRow 0 56 1 wv L (xs.map It.val) := by
                have := T7.x.row
                rwa [hxl] at this
              refine step_append_lies _ rfl _ _ 33 rfl 0 56 i1 (.slice none 0 0) 1 24 Tryz.underlying33 ki kz0 kz1 kz2 rfl (by decide) wv L _ rfl (rw7.alloc _) ⟨w7.heap.size, 0, none⟩ 1 1 [.slice (some ⟨g7, 0, none⟩) 512 c7] rfl rfl (cell_one7 _ _ _) (by intro u hu; simp at hu; subst hu; rfl) (by decide) (by unfold maxLen; omega) (by omega) (by omega) _ rfl ?_
              intro g8 c8 w8 ho8 hg8 hat8 hlt8
              have X8 := T7.grow2 hg8
              have z4 : w8.cell? ⟨tw, 4, none⟩ = some wv := by simp [World.cell?, X8]
              have zf8 : w8.frozen? ⟨tw, 4, none⟩ = false := by simp [World.frozen?, X8]
              refine hK.out _ _ trivial (fun hHeld => ?_)
              clear hK KK hHeld
              try simp only [Act.put, List.setIfInBounds_toArray, List.set_cons_zero, List.set_cons_succ]
              refine wpAnyH_take (i := 8) (oi := ⟨some 89, .nilCheck (.tmp 81), 0, "free.go:45", #[⟨0, .data⟩, ⟨0, .phase⟩, ⟨1, .phase⟩, ⟨2, .phase⟩, ⟨3, .phase⟩, ⟨4, .phase⟩, ⟨5, .phase⟩, ⟨6, .phase⟩, ⟨7, .phase⟩], none⟩) (v := (.pointer (some ⟨tw, 0, none⟩))) rfl (by kernel_rfl) (by kernel_rfl) (by kernel_rfl) (fun _ _ _ h => h) (Or.inl ⟨by rfl, fun _ _ => by rfl⟩) trivial ?_
              simp only [Act.put, List.setIfInBounds_toArray, List.set_cons_zero, List.set_cons_succ]
              refine wpAnyH_take (i := 9) (oi := ⟨some 90, .fieldAddr 42 (.tmp 89) 4, 0, "free.go:45", #[⟨8, .data⟩, ⟨0, .phase⟩, ⟨1, .phase⟩, ⟨2, .phase⟩, ⟨3, .phase⟩, ⟨4, .phase⟩, ⟨5, .phase⟩, ⟨6, .phase⟩, ⟨7, .phase⟩], none⟩) (v := (.pointer (some ⟨tw, 4, none⟩))) rfl (by kernel_rfl) (by kernel_rfl) (by kernel_rfl) (fun _ _ _ h => h) (Or.inl ⟨by rfl, fun _ _ => by rfl⟩) trivial ?_
              simp only [Act.put, List.setIfInBounds_toArray, List.set_cons_zero, List.set_cons_succ]
              refine wpAnyH_ready (rs := [10]) (by kernel_rfl) (by simp) ?_
              refine AllReadyH.cons (o := ⟨none, .store 33 (.tmp 90) (.tmp 88), 0, "free.go:45", #[⟨9, .data⟩, ⟨7, .data⟩, ⟨7, .chain⟩, ⟨0, .phase⟩, ⟨1, .phase⟩, ⟨2, .phase⟩, ⟨3, .phase⟩, ⟨4, .phase⟩, ⟨5, .phase⟩, ⟨6, .phase⟩, ⟨7, .phase⟩], none⟩) rfl (fun KK hK => ?_) (AllReadyH.nil)
              go_simp
              refine hK.out _ _ trivial (fun hHeld => ?_)
              clear hK KK hHeld
              try simp only [Act.put, List.setIfInBounds_toArray, List.set_cons_zero, List.set_cons_succ]
              refine wpAnyH_done (by kernel_rfl) ?_ _
              have HE := town_end D T B ltw lo lw ho HL.out hxl hxz hat5 T6 t6 o7 b7 ho8 hg8 hat8
              obtain ⟨W9, hW9⟩ : ∃ W9, w8.setCell ⟨tw, 4, none⟩ (.slice (some ⟨g8, 0, none⟩) (L + 1) c8) = W9 := ⟨_, rfl⟩
              rw [hW9] at HE
              try rw [hW9]
              clear hW9 z4 zf8 X8 ho8 hg8 hat8 hlt8 rw7 u4 u4a T7 o7 b7 T6 t6 hW6 y4d ho5 hg5 hat5 hlt5 T D
              go_wp2_with fail
              go_roundw
              case rel => exact ⟨b + 1, by omega, by simp, HE⟩
              case measure => simp [intOf]; omega
      · have ho2 : ¬ b < 2 ∧ b < 32 := by
          simp [outB7] at ho; omega
        have hb2i : ¬ (b : Int) < 2 := by omega
        have h32i : ¬ (32 : Int) ≤ b := by omega
        have HE : TR w G tw db (b + 1) w4 := by
          have e : outs (b + 1) = outs b := by rw [outs_succ]; simp [ho]
          exact ⟨ov, wv, xs, D, by rw [e]; exact T, by rw [e]; exact hxl, hxz, lo, lw, B⟩
        clear D T hxl
        go_wp2_with fail
        go_roundw
        case rel => exact ⟨b + 1, by omega, by simp, HE⟩
        case measure => simp [intOf]; omega
    · have hb40 : b = 40 := by omega
      subst hb40
      have HT : Hid (Dev w4 db 0 F40 40 30 G ∧ Tn w4 G tw db ov wv (outs 40) xs ∧ xs.length = 10) := ⟨D, T, by rw [hxl, outs_40]; rfl⟩
      clear D T hxl
      go_wp2_with fail
      refine (num7 0 w4).mono ?_
      rintro e w5 ⟨rfl, rfl⟩
      go_wp2_with fail
      obtain ⟨Dz, Tz, lz⟩ := HT.out
      refine bodyPost_ret (results_tmp2 rfl _ _ _) rfl ?_
      exact ⟨tw, db, 30, G, ov, wv, xs, rfl, Dz, by omega, fun i hi => (f3 i hi).1, Tz, lz, hxz, ltw, lo, B⟩
theorem Tn.tg {w : World} {G : Nat → Prop} {tw db : Nat} {ov wv : Value} {os : List Nat} {xs : List It} (h : Tn w G tw db ov wv os xs) : Tg w G tw db 2 30 ov wv os xs := ⟨h.box, h.o, h.x, h.gt⟩
theorem og_outs : og 2 30 40 = outs 40 := by decide
/-- A town, of whatever numbers. -/
theorem town_any (w : World) (n st sz : Int) :
    Calls Tryz.prog 10 #[.int .i64 n, .int .i64 st, .int .i64 sz] w fun e w' => ∃ k st sz tw db N G ov wv xs, (30 ≤ k ∧ k ≤ 200 ∧ 27 ≤ sz ∧ sz ≤ k - 1 ∧ st + sz ≤ k) ∧ e = .returned (.tuple #[.pointer (some ⟨tw, 0, none⟩), .bool true]) ∧ Dev w' db 0 (FK k st sz) k N G ∧ N ≤ 1000 ∧ (∀ i, G i → w.heap.size ≤ i) ∧ Tg w' G tw db st sz ov wv (og st sz k) xs ∧ xs.length = (og st sz k).length ∧ (∀ x ∈ xs, x.bs = zB) ∧ w.heap.size ≤ tw ∧ (∀ b, ov.ownBlock = some b → w.heap.size ≤ b) ∧ Below w.heap.size w w' := by
  by_cases hv : n < 30 ∨ 200 < n ∨ st < 0 ∨ sz < 27 ∨ n - 1 < sz ∨ n - sz < st
  · refine (town_bad w n st sz hv).mono ?_
    rintro e w' ⟨tw, db, N, G, ov, wv, xs, rfl, D, hN, hG, T, hl, hz, l1, l2, b⟩
    exact ⟨40, 2, 30, tw, db, N, G, ov, wv, xs, by omega, rfl, D, hN, hG, by rw [og_outs]; exact T.tg, by rw [hl, og_outs, outs_40]; rfl, hz, l1, l2, b⟩
  · obtain ⟨k, rfl⟩ : ∃ k : Nat, n = k := ⟨n.toNat, by omega⟩
    obtain ⟨s, rfl⟩ : ∃ k : Nat, st = k := ⟨st.toNat, by omega⟩
    obtain ⟨z, rfl⟩ : ∃ k : Nat, sz = k := ⟨sz.toNat, by omega⟩
    refine (town_good w k s z (by omega) (by omega) (by omega) (by omega) (by omega)).mono ?_
    rintro e w' ⟨tw, db, N, G, ov, wv, xs, rfl, D, hN, hG, T, hl, hz, l1, l2, b⟩
    exact ⟨k, s, z, tw, db, N, G, ov, wv, xs, by omega, rfl, D, hN, hG, T, hl, hz, l1, l2, b⟩
end Go.Proofs.YtnmdnglbpkpfdaaGreatDoor
