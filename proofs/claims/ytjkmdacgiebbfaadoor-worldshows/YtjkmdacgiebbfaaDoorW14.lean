/- The program's returnedLine. -/
import Derived.Test.YtjkmdacgiebbfaaDoorW13
namespace Go.Proofs.YtjkmdacgiebbfaaDoor
open Go.RowKit Go.Sort
set_option maxRecDepth 100000

abbrev attrObj (r : Rs) : Obj := .cells #[.int .i64 r.ai, .int .i64 r.ak, .int .i64 r.az, .int .i64 r.ac] 27
abbrev bdObj : Obj := .cells #[.pointer none, .slice none 0 0] 54
theorem cells_of3 {w : World} {b : Nat} {x y z : Value} {t : TypeId} (h : w.heap[b]? = some (.cells #[x, y, z] t (0, 0))) : w.cell? ⟨b, 0, none⟩ = some x ∧ w.cell? ⟨b, 1, none⟩ = some y ∧ w.cell? ⟨b, 2, none⟩ = some z :=
  ⟨by rw [Lib.cell_of_heap h]; rfl, by rw [Lib.cell_of_heap h]; rfl, by rw [Lib.cell_of_heap h]; rfl⟩
theorem RBx.belowB {w w' : World} {b B : Nat} {r : Rs} (h : RBx w b r) (hb : Below B w w') (hB : b < B) : RBx w' b r := ⟨(hb.block b hB).trans h.heap⟩
theorem rs_nums (r : Rs) {m : Int} (hm : (if r.more then 1 else 0 : Int) = m) : r.nums = [r.call, r.op, r.st, r.hd, r.ai, r.ak, r.az, r.ac, m] := by unfold Rs.nums; rw [hm]
set_option maxHeartbeats 8000000 in
theorem returned_any (a : Int) (ha : isI a) (r : Rs) (w : World) (hR : r.Ok w) (hG : Gl w) : Calls Tryd.prog 8 #[.int .i64 a, r.val] w fun e w' => e = .returned (.string (tx (r.line a))) ∧ Below w.heap.size w w' := by
  obtain ⟨m, hm, hm'⟩ : ∃ m : Int, (if r.more then 1 else 0 : Int) = m ∧ (r.more = true ∧ m = 1 ∨ r.more = false ∧ m = 0) := by
    refine ⟨_, rfl, ?_⟩
    rcases Bool.eq_false_or_eq_true r.more with h | h
    · exact .inl ⟨h, by rw [h]; rfl⟩
    · exact .inr ⟨h, by rw [h]; rfl⟩
  have hN := rs_nums r hm
  obtain ⟨ao, lc, hlv, _, hlnil⟩ := hR.list.form
  have hX := RBx.new w r
  have b1 : Below w.heap.size w (w.alloc (.cells r.vals 30)) := (Below.refl _ w).alloc (Nat.le_refl _) _
  obtain ⟨d0, d1, d2, d3, d4, d5, d6, d7, d8, d9, d10⟩ := hX.cells
  have hv : r.vals.size = 11 := rfl
  have hr1 : (w.alloc (.cells r.vals 30)).heap.size = w.heap.size + 1 := by simp
  generalize hw1 : w.alloc (.cells r.vals 30) = w1 at *
  have hA := isB_new (w1.alloc (attrObj r))
  have hs2 : (w1.alloc (attrObj r)).heap.size = w.heap.size + 2 := by simp [hr1]
  rw [hs2] at hA
  have b3 : Below w.heap.size w ((w1.alloc (attrObj r)).alloc bdObj) := (b1.alloc b1.size _).alloc (by simp; omega) _
  have hs3 : ((w1.alloc (attrObj r)).alloc bdObj).heap.size = w.heap.size + 3 := by simp [hr1]
  have hnI : ∀ x ∈ [a, r.call, r.op, r.st, r.hd, r.ai, r.ak, r.az, r.ac, m], isI x := by
    intro x hx
    rcases List.mem_cons.1 hx with rfl | hx
    · exact ha
    · exact hR.nums x (by rw [hN]; exact hx)
  have hW := words_any ⟨retW.toArray⟩ [a, r.call, r.op, r.st, r.hd, r.ai, r.ak, r.az, r.ac, m] ⟨w.heap.size + 3, 0, none⟩ 10 (((w1.alloc (attrObj r)).alloc bdObj).alloc (.cells #[.int .i64 a, .int .i64 r.call, .int .i64 r.op, .int .i64 r.st, .int .i64 r.hd, .int .i64 r.ai, .int .i64 r.ak, .int .i64 r.az, .int .i64 r.ac, .int .i64 m] 3)) (hG.here (b3.alloc (by omega) _)) (by decide) hnI (by show 10 ≤ 1000; decide) (by rw [← hs3]; exact ints_new _ _ _)
  have hl1 := numsT_len _ hnI
  have HL := Lib.hid (show r.line a = ((retW ++ numsT [a, r.call, r.op, r.st, r.hd, r.ai, r.ak, r.az, r.ac, m]) ++ (32 :: textT r.dl)) ++ entsT r.es by
    unfold Rs.line Rs.rest
    rw [hN, show [a, r.call, r.op, r.st, r.hd, r.ai, r.ak, r.az, r.ac, m] = [a] ++ [r.call, r.op, r.st, r.hd, r.ai, r.ak, r.az, r.ac, m] from rfl, nums_app]
    simp only [List.append_assoc])
  rw [show bs ⟨retW.toArray⟩ = retW from rfl] at hW
  simp only [List.length_cons, List.length_nil] at hl1 hW
  generalize numsT [a, r.call, r.op, r.st, r.hd, r.ai, r.ak, r.az, r.ac, m] = NS at *
  have hA4 := (hA.below ((Below.refl _ ((w1.alloc (attrObj r)).alloc bdObj)).alloc (Nat.le_refl _) (.cells #[.int .i64 a, .int .i64 r.call, .int .i64 r.op, .int .i64 r.st, .int .i64 r.hd, .int .i64 r.ai, .int .i64 r.ak, .int .i64 r.az, .int .i64 r.ac, .int .i64 m] 3)))
  have b4 := b3.alloc (Nat.le_trans (by omega) (Nat.le_of_eq hs3.symm)) (.cells #[.int .i64 a, .int .i64 r.call, .int .i64 r.op, .int .i64 r.st, .int .i64 r.hd, .int .i64 r.ai, .int .i64 r.ak, .int .i64 r.az, .int .i64 r.ac, .int .i64 m] 3)
  have hX4 := (hX.below (((Below.refl _ w1).alloc (Nat.le_refl _) (attrObj r)).alloc (by simp) bdObj)).below ((Below.refl _ ((w1.alloc (attrObj r)).alloc bdObj)).alloc (Nat.le_refl _) (.cells #[.int .i64 a, .int .i64 r.call, .int .i64 r.op, .int .i64 r.st, .int .i64 r.hd, .int .i64 r.ai, .int .i64 r.ak, .int .i64 r.az, .int .i64 r.ac, .int .i64 m] 3))
  have hs4 : w.heap.size + 3 ≤ (((w1.alloc (attrObj r)).alloc bdObj).alloc (.cells #[.int .i64 a, .int .i64 r.call, .int .i64 r.op, .int .i64 r.st, .int .i64 r.hd, .int .i64 r.ai, .int .i64 r.ak, .int .i64 r.az, .int .i64 r.ac, .int .i64 m] 3)).heap.size := by simp [hr1]
  have HA := Lib.hid hA4
  have HX := Lib.hid hX4
  have HB := Lib.hid b4
  have HR := Lib.hid hR
  have HG := Lib.hid hG
  have HLV := Lib.hid hlv
  clear hA hX b3 b1 hR hG hnI hA4 hX4 b4 hN hm
  unfold Rs.val
  rcases hm' with ⟨hm, rfl⟩ | ⟨hm, rfl⟩
  all_goals
    go_enter Tryd.func8, Tryd.ntmps8
    go_wp2_with fail
    refine hW.mono ?_
    rintro e w5 ⟨rfl, b5⟩
    clear hW d0 d1 d2 d3 d4 d5 d6 d7 d8 d9 d10
    have hWS := writeString_any (w.heap.size + 2) (w.heap.size + 2) [] (retW ++ NS) w5 (HA.out.below b5) (by rw [List.length_nil, List.length_append]; simp only [retW, List.length_cons, List.length_nil]; omega) (Nat.le_trans (by omega) (Nat.le_trans hs4 b5.size))
    have HX5 := Lib.hid (HX.out.below b5)
    have HB5 := Lib.hid (HB.out.trans (b5.mono HB.out.size))
    have hs5 := Nat.le_trans hs4 b5.size
    clear b5 HA HX HB
    go_wp2_with fail
    refine hWS.mono ?_
    rintro e w6 ⟨⟨v6, rfl⟩, hA6, b6, _⟩
    clear hWS
    rw [List.nil_append] at hA6
    have HA6 := Lib.hid hA6
    have HX6 := Lib.hid (HX5.out.belowB b6 (by omega))
    have HB6 := Lib.hid (HB5.out.trans (b6.mono (by omega)))
    have hs6 := Nat.le_trans hs5 b6.size
    clear hA6 b6 HX5 HB5 hs5
    obtain ⟨d0, d1, d2, d3, d4, d5, d6, d7, d8, d9, d10⟩ := HX6.out.cells
    have hD6 := HR.out.data.below HB6.out
    have hcv := conv_B hD6
    have hTx := Text_any (tx r.dl) w6 (by rw [size_tx]; have := HR.out.dlen; omega)
    rw [bs_tx] at hTx
    have htl := textT_len r.dl
    have hdl := HR.out.dlen
    have k1 := cat_r ⟨#[32]⟩ (textT r.dl) (by simp [ByteArray.size]; omega)
    rw [show bs ⟨#[32]⟩ ++ textT r.dl = 32 :: textT r.dl from rfl] at k1
    clear hD6
    go_wp2_with fail
    refine hTx.mono ?_
    rintro e w7 ⟨rfl, b7⟩
    clear hTx d0 d1 d2 d3 d4 d5 d6 d7 d8 d9 d10 hcv
    have hWS := writeString_any (w.heap.size + 2) (w.heap.size + 2) (retW ++ NS) (32 :: textT r.dl) w7 (HA6.out.below b7) (by rw [List.length_append, List.length_cons]; simp only [retW, List.length_cons, List.length_nil]; omega) (Nat.le_trans (by omega) (Nat.le_trans hs6 b7.size))
    have HX7 := Lib.hid (HX6.out.below b7)
    have HB7 := Lib.hid (HB6.out.trans (b7.mono HB6.out.size))
    have hs7 := Nat.le_trans hs6 b7.size
    clear b7 HA6 HX6 HB6
    go_wp2_with fail
    refine hWS.mono ?_
    rintro e w8 ⟨⟨v8, rfl⟩, hA8, b8, _⟩
    clear hWS k1
    have HA8 := Lib.hid hA8
    have HX8 := Lib.hid (HX7.out.belowB b8 (by omega))
    have HB8 := Lib.hid (HB7.out.trans (b8.mono (by omega)))
    have hs8 := Nat.le_trans hs7 b8.size
    clear hA8 b8 HX7 HB7 hs7
    obtain ⟨d0, d1, d2, d3, d4, d5, d6, d7, d8, d9, d10⟩ := HX8.out.cells
    rw [HLV.out] at d9
    have hP0 : ((retW ++ NS) ++ 32 :: textT r.dl).length ≤ 4194600 := by rw [List.length_append, List.length_append, List.length_cons]; simp only [retW, List.length_cons, List.length_nil]; omega
    have hel := HR.out.elen
    have heli : (r.es.length : Int) ≤ 1048576 := by omega
    generalize ((retW ++ NS) ++ 32 :: textT r.dl) = P0 at *
    go_wp2_with fail
    go_loopw [44] (fun k wr => ∃ q : Nat, q ≤ r.es.length ∧ k = .int .i64 q ∧ IsB (w.heap.size + 2) (w.heap.size + 2) (P0 ++ entsT (r.es.take q)) wr ∧ Below w.heap.size w wr ∧ w.heap.size + 3 ≤ wr.heap.size) (fun k _ => r.es.length - (intOf k).toNat)
    case atStart => exact ⟨0, Nat.zero_le _, rfl, by simpa [entsT] using HA8.out, HB8.out, hs8⟩
    case round =>
      obtain ⟨q, hq, rfl, hI, hbw, hsr⟩ := hrel
      have HI := Lib.hid hI
      have HBW := Lib.hid hbw
      clear hI hbw d0 d1 d2 d3 d4 d5 d6 d7 d8 d9 d10 HA8 HX8 HB8 hs8
      by_cases hlt : q < r.es.length
      · have hEA := HR.out.list.below HBW.out
        rw [HLV.out] at hEA
        cases ao with
        | none => have := hlnil rfl; rw [this] at hlt; simp at hlt
        | some ad =>
          obtain ⟨c0, c1, c2⟩ := hEA.cells q hlt
          have hes := HR.out.ent _ (List.getElem_mem hlt)
          have HT := Lib.hid (ents_take r.es q hlt)
          have hln := ents_len (r.es.take q) fun x hx => HR.out.ent x (List.mem_of_mem_take hx)
          rw [List.length_take] at hln
          obtain ⟨en, hen⟩ : ∃ en, r.es[q] = en := ⟨_, rfl⟩
          rw [hen] at c0 c1 c2 hes HT
          have c00 := (hEA.cells 0 (by omega)).1
          obtain ⟨gb, go, spot⟩ := ad
          have hspot : spot = none := by simpa [Addr.add] using World.cell?_spot c00
          clear c00
          subst hspot
          rw [Addr.add_lit, show go + 3 * q = go + q * 3 by omega] at c0
          rw [Addr.add_lit, show go + (3 * q + 1) = go + q * 3 + 1 by omega] at c1
          rw [Addr.add_lit, show go + (3 * q + 2) = go + q * 3 + 2 by omega] at c2
          clear hEA
          go_wp2_with fail
          have hE0 := heap_alloc_new wr (.cells #[.string en.name, .int .i64 en.id, .int .i64 en.kind] 60)
          have hI0 := HI.out.below ((Below.refl _ wr).alloc (Nat.le_refl _) (.cells #[.string en.name, .int .i64 en.id, .int .i64 en.kind] 60))
          have hB0 := HBW.out.alloc HBW.out.size (.cells #[.string en.name, .int .i64 en.id, .int .i64 en.kind] 60)
          have hsE : wr.heap.size < (wr.alloc (.cells #[.string en.name, .int .i64 en.id, .int .i64 en.kind] 60)).heap.size := by simp
          have hEb : wr.heap.size ≠ w.heap.size + 2 := by omega
          generalize hE : wr.heap.size = E at *
          generalize hW0 : wr.alloc (.cells #[.string en.name, .int .i64 en.id, .int .i64 en.kind] 60) = W0 at *
          clear hW0 c0 c1 c2
          have kc : ∀ W', Below W0.heap.size W0 W' → W'.cell? ⟨E, 0, none⟩ = some (.string en.name) ∧ W'.cell? ⟨E, 1, none⟩ = some (.int .i64 en.id) ∧ W'.cell? ⟨E, 2, none⟩ = some (.int .i64 en.kind) := fun W' hb => by
            have hh := (hb.block E hsE).trans hE0
            exact ⟨by rw [Lib.cell_of_heap hh]; rfl, by rw [Lib.cell_of_heap hh]; rfl, by rw [Lib.cell_of_heap hh]; rfl⟩
          have KC := Lib.hid kc
          have HE0 := Lib.hid hE0
          have HI0 := Lib.hid hI0
          have HB0 := Lib.hid hB0
          have hbd := (Below.refl W0.heap.size W0).drew
          have hcS := kc _ hbd
          have hTx := fun w => Text_any en.name w (by have := hes.1; omega)
          have hwI : ∀ x ∈ [en.id, en.kind], isI x := by intro x hx; simp at hx; rcases hx with rfl | rfl; exact hes.2.1; exact hes.2.2
          have hwl := entw_len en hes
          have htl := textT_len (bs en.name)
          have hnl := hes.1
          rw [size_bs] at htl
          clear kc hE0 hI0 hB0
          refine wp_region_held_drew (S := fun w' => w'.cell? ⟨E, 0, none⟩ = some (.string en.name) ∧ w'.cell? ⟨E, 1, none⟩ = some (.int .i64 en.id) ∧ w'.cell? ⟨E, 2, none⟩ = some (.int .i64 en.kind)) (by kernel_rfl) hcS (fun hHeld => ?_)
          refine wpAnyH_take (i := 0) (oi := ⟨some 48, .fieldAddr 60 (.tmp 9) 0, 0, "words.go:38", #[], none⟩) (v := (.pointer (some ⟨E, 0, none⟩))) rfl (by kernel_rfl) (by kernel_rfl) (by kernel_rfl) (fun _ _ _ h => h) (Or.inl ⟨by rfl, fun _ _ => by rfl⟩) hHeld ?_
          simp only [Act.put, List.setIfInBounds_toArray, List.set_cons_zero, List.set_cons_succ]
          refine wpAnyH_take (i := 1) (oi := ⟨some 49, .load 9 (.tmp 48), 9, "words.go:38", #[⟨0, .data⟩], none⟩) (v := (.string en.name)) rfl (by kernel_rfl) (by kernel_rfl) (by kernel_rfl) (fun _ _ _ h => h) (Or.inl ⟨by rfl, fun w' h' => by have e := h'.1; unfold execOp; go_simp⟩) hHeld ?_
          simp only [Act.put, List.setIfInBounds_toArray, List.set_cons_zero, List.set_cons_succ]
          refine wpAnyH_take (i := 3) (oi := ⟨some 51, .fieldAddr 60 (.tmp 9) 1, 0, "words.go:38", #[], none⟩) (v := (.pointer (some ⟨E, 1, none⟩))) rfl (by kernel_rfl) (by kernel_rfl) (by kernel_rfl) (fun _ _ _ h => h) (Or.inl ⟨by rfl, fun _ _ => by rfl⟩) hHeld ?_
          simp only [Act.put, List.setIfInBounds_toArray, List.set_cons_zero, List.set_cons_succ]
          refine wpAnyH_take (i := 4) (oi := ⟨some 52, .load 3 (.tmp 51), 3, "words.go:38", #[⟨3, .data⟩], none⟩) (v := (.int .i64 en.id)) rfl (by kernel_rfl) (by kernel_rfl) (by kernel_rfl) (fun _ _ _ h => h) (Or.inl ⟨by rfl, fun w' h' => by have e := h'.2.1; unfold execOp; go_simp⟩) hHeld ?_
          simp only [Act.put, List.setIfInBounds_toArray, List.set_cons_zero, List.set_cons_succ]
          refine wpAnyH_take (i := 5) (oi := ⟨some 53, .fieldAddr 60 (.tmp 9) 2, 0, "words.go:38", #[], none⟩) (v := (.pointer (some ⟨E, 2, none⟩))) rfl (by kernel_rfl) (by kernel_rfl) (by kernel_rfl) (fun _ _ _ h => h) (Or.inl ⟨by rfl, fun _ _ => by rfl⟩) hHeld ?_
          simp only [Act.put, List.setIfInBounds_toArray, List.set_cons_zero, List.set_cons_succ]
          refine wpAnyH_take (i := 6) (oi := ⟨some 54, .load 3 (.tmp 53), 3, "words.go:38", #[⟨5, .data⟩], none⟩) (v := (.int .i64 en.kind)) rfl (by kernel_rfl) (by kernel_rfl) (by kernel_rfl) (fun _ _ _ h => h) (Or.inl ⟨by rfl, fun w' h' => by have e := h'.2.2; unfold execOp; go_simp⟩) hHeld ?_
          simp only [Act.put, List.setIfInBounds_toArray, List.set_cons_zero, List.set_cons_succ]
          refine wpAnyH_ready (rs := [2, 7]) (by kernel_rfl) (by simp) ?_
          refine AllReadyH.cons (o := ⟨some 50, .call ⟨.value (.func 9), #[.tmp 49], #[9]⟩, 9, "words.go:38", #[⟨1, .data⟩], none⟩) rfl (fun KK hK => ?_) (AllReadyH.cons (o := ⟨some 55, .buildSlice 47 2 #[(0, .tmp 52), (1, .tmp 54)], 47, "words.go:38", #[⟨4, .data⟩, ⟨6, .data⟩], none⟩) rfl (fun KK hK => ?_) (AllReadyH.nil))
          · go_simp
            refine (hTx _).mono ?_
            rintro e w7 ⟨rfl, b7⟩
            have hb7 := hbd.trans (b7.mono hbd.size)
            have hc7 := KC.out _ hb7
            have hs7 := b7.size
            clear hTx b7
            go_wp2_with fail
            refine hK.out _ _ hc7 (fun hHeld => ?_)
            clear hK KK
            try simp only [Act.put, List.setIfInBounds_toArray, List.set_cons_zero, List.set_cons_succ]
            refine wpAnyH_ready (rs := [7]) (by kernel_rfl) (by simp) ?_
            refine AllReadyH.cons (o := ⟨some 55, .buildSlice 47 2 #[(0, .tmp 52), (1, .tmp 54)], 47, "words.go:38", #[⟨4, .data⟩, ⟨6, .data⟩], none⟩) rfl (fun KK hK => ?_) (AllReadyH.nil)
            go_simp
            have hbA := hb7.alloc hb7.size (.cells #[.int .i64 en.id, .int .i64 en.kind] 3)
            have hcA := KC.out _ hbA
            have hia := ints_new w7 [en.id, en.kind] 3
            refine hK.out _ _ hcA (fun hHeld => ?_)
            clear hK KK
            try simp only [Act.put, List.setIfInBounds_toArray, List.set_cons_zero, List.set_cons_succ]
            refine wpAnyH_ready (rs := [8]) (by kernel_rfl) (by simp) ?_
            refine AllReadyH.cons (o := ⟨some 56, .call ⟨.value (.func 6), #[.tmp 50, .tmp 55], #[9, 47]⟩, 9, "words.go:38", #[⟨2, .data⟩, ⟨7, .data⟩, ⟨2, .chain⟩], none⟩) rfl (fun KK hK => ?_) (AllReadyH.nil)
            go_simp
            have hGw := HG.out.here (HB0.out.trans (hbA.mono HB0.out.size))
            refine (words_any (tx (textT (bs en.name))) [en.id, en.kind] _ _ _ hGw (by rw [size_tx]; omega) hwI (by show 2 ≤ 1000; decide) hia).mono ?_
            rintro e w9 ⟨rfl, b9⟩
            have hb9 := hbA.trans (b9.mono hbA.size)
            have hc9 := KC.out _ hb9
            rw [bs_tx, show textT (bs en.name) ++ numsT [en.id, en.kind] = en.word from rfl]
            have k1 := cat_r ⟨#[32]⟩ en.word (by simp [ByteArray.size]; omega)
            rw [show bs ⟨#[32]⟩ ++ en.word = 32 :: en.word from rfl] at k1
            clear b9 hGw hia
            go_wp2_with fail
            refine hK.out _ _ hc9 (fun hHeld => ?_)
            clear hK KK
            try simp only [Act.put, List.setIfInBounds_toArray, List.set_cons_zero, List.set_cons_succ]
            refine wpAnyH_take (i := 9) (oi := ⟨some 57, .binOp .add 9 (.const (.string { data := #[32] })) (.tmp 56) 9, 9, "words.go:38", #[⟨8, .data⟩], none⟩) (v := (.string (tx (32 :: en.word)))) rfl (by kernel_rfl) (by kernel_rfl) (by kernel_rfl) (fun _ _ _ h => h) (Or.inl ⟨by rfl, fun w' h' => by have e := k1; unfold execOp; go_simp⟩) hHeld ?_
            simp only [Act.put, List.setIfInBounds_toArray, List.set_cons_zero, List.set_cons_succ]
            refine wpAnyH_ready (rs := [10]) (by kernel_rfl) (by simp) ?_
            refine AllReadyH.cons (o := ⟨some 58, .call ⟨.value (.func 18), #[.tmp 7, .tmp 57], #[54, 9]⟩, 57, "words.go:38", #[⟨9, .data⟩, ⟨8, .chain⟩], none⟩) rfl (fun KK hK => ?_) (AllReadyH.nil)
            go_simp
            refine (writeString_any (w.heap.size + 2) (w.heap.size + 2) (P0 ++ entsT (r.es.take q)) (32 :: en.word) _ (HI0.out.below hb9) (by rw [List.length_append, List.length_cons]; omega) (by have := hb9.size; omega)).mono ?_
            rintro e w10 ⟨⟨v10, rfl⟩, hA10, b10, k10⟩
            have hc10 := cells_of3 (k10 E _ _ _ (by omega) (by decide) ((hb9.block E hsE).trans HE0.out))
            go_wp2_with fail
            refine hK.out _ _ hc10 (fun hHeld => ?_)
            clear hK KK
            try simp only [Act.put, List.setIfInBounds_toArray, List.set_cons_zero, List.set_cons_succ]
            refine wpAnyH_done (by kernel_rfl) ?_ _
            have HA10 := Lib.hid hA10
            have HB10 := Lib.hid ((HB0.out.trans (hb9.mono HB0.out.size)).trans (b10.mono (by omega)))
            have hs10 : w.heap.size + 3 ≤ w10.heap.size := by have := hb9.size; have := b10.size; omega
            clear hA10 b10 hb9 hc9 hc10 k10
            go_wp2_with fail
            go_roundw
            case rel => exact ⟨q + 1, by omega, by go_num, by rw [HT.out, ← List.append_assoc]; exact HA10.out, HB10.out, hs10⟩
            case measure => simp [intOf]; omega
          · go_simp
            have hbA := hbd.alloc hbd.size (.cells #[.int .i64 en.id, .int .i64 en.kind] 3)
            have hcA := KC.out _ hbA
            have hI0 := ints_new W0.drew [en.id, en.kind] 3
            refine hK.out _ _ hcA (fun hHeld => ?_)
            clear hK KK
            try simp only [Act.put, List.setIfInBounds_toArray, List.set_cons_zero, List.set_cons_succ]
            refine wpAnyH_ready (rs := [2]) (by kernel_rfl) (by simp) ?_
            refine AllReadyH.cons (o := ⟨some 50, .call ⟨.value (.func 9), #[.tmp 49], #[9]⟩, 9, "words.go:38", #[⟨1, .data⟩], none⟩) rfl (fun KK hK => ?_) (AllReadyH.nil)
            go_simp
            refine (hTx _).mono ?_
            rintro e w7 ⟨rfl, b7⟩
            have hb7 := hbA.trans (b7.mono hbA.size)
            have hc7 := KC.out _ hb7
            have hs7 := b7.size
            have hia := hI0.below b7
            clear hTx b7
            go_wp2_with fail
            refine hK.out _ _ hc7 (fun hHeld => ?_)
            clear hK KK
            try simp only [Act.put, List.setIfInBounds_toArray, List.set_cons_zero, List.set_cons_succ]
            refine wpAnyH_ready (rs := [8]) (by kernel_rfl) (by simp) ?_
            refine AllReadyH.cons (o := ⟨some 56, .call ⟨.value (.func 6), #[.tmp 50, .tmp 55], #[9, 47]⟩, 9, "words.go:38", #[⟨2, .data⟩, ⟨7, .data⟩, ⟨2, .chain⟩], none⟩) rfl (fun KK hK => ?_) (AllReadyH.nil)
            go_simp
            have hGw := HG.out.here (HB0.out.trans (hb7.mono HB0.out.size))
            refine (words_any (tx (textT (bs en.name))) [en.id, en.kind] _ _ _ hGw (by rw [size_tx]; omega) hwI (by show 2 ≤ 1000; decide) hia).mono ?_
            rintro e w9 ⟨rfl, b9⟩
            have hb9 := hb7.trans (b9.mono hb7.size)
            have hc9 := KC.out _ hb9
            rw [bs_tx, show textT (bs en.name) ++ numsT [en.id, en.kind] = en.word from rfl]
            have k1 := cat_r ⟨#[32]⟩ en.word (by simp [ByteArray.size]; omega)
            rw [show bs ⟨#[32]⟩ ++ en.word = 32 :: en.word from rfl] at k1
            clear b9 hGw hia
            go_wp2_with fail
            refine hK.out _ _ hc9 (fun hHeld => ?_)
            clear hK KK
            try simp only [Act.put, List.setIfInBounds_toArray, List.set_cons_zero, List.set_cons_succ]
            refine wpAnyH_take (i := 9) (oi := ⟨some 57, .binOp .add 9 (.const (.string { data := #[32] })) (.tmp 56) 9, 9, "words.go:38", #[⟨8, .data⟩], none⟩) (v := (.string (tx (32 :: en.word)))) rfl (by kernel_rfl) (by kernel_rfl) (by kernel_rfl) (fun _ _ _ h => h) (Or.inl ⟨by rfl, fun w' h' => by have e := k1; unfold execOp; go_simp⟩) hHeld ?_
            simp only [Act.put, List.setIfInBounds_toArray, List.set_cons_zero, List.set_cons_succ]
            refine wpAnyH_ready (rs := [10]) (by kernel_rfl) (by simp) ?_
            refine AllReadyH.cons (o := ⟨some 58, .call ⟨.value (.func 18), #[.tmp 7, .tmp 57], #[54, 9]⟩, 57, "words.go:38", #[⟨9, .data⟩, ⟨8, .chain⟩], none⟩) rfl (fun KK hK => ?_) (AllReadyH.nil)
            go_simp
            refine (writeString_any (w.heap.size + 2) (w.heap.size + 2) (P0 ++ entsT (r.es.take q)) (32 :: en.word) _ (HI0.out.below hb9) (by rw [List.length_append, List.length_cons]; omega) (by have := hb9.size; omega)).mono ?_
            rintro e w10 ⟨⟨v10, rfl⟩, hA10, b10, k10⟩
            have hc10 := cells_of3 (k10 E _ _ _ (by omega) (by decide) ((hb9.block E hsE).trans HE0.out))
            go_wp2_with fail
            refine hK.out _ _ hc10 (fun hHeld => ?_)
            clear hK KK
            try simp only [Act.put, List.setIfInBounds_toArray, List.set_cons_zero, List.set_cons_succ]
            refine wpAnyH_done (by kernel_rfl) ?_ _
            have HA10 := Lib.hid hA10
            have HB10 := Lib.hid ((HB0.out.trans (hb9.mono HB0.out.size)).trans (b10.mono (by omega)))
            have hs10 : w.heap.size + 3 ≤ w10.heap.size := by have := hb9.size; have := b10.size; omega
            clear hA10 b10 hb9 hc9 hc10 k10
            go_wp2_with fail
            go_roundw
            case rel => exact ⟨q + 1, by omega, by go_num, by rw [HT.out, ← List.append_assoc]; exact HA10.out, HB10.out, hs10⟩
            case measure => simp [intOf]; omega
      · obtain rfl : q = r.es.length := by omega
        have hI2 := HI.out
        rw [List.take_length, ← HL.out] at hI2
        have hS := string_any (w.heap.size + 2) (w.heap.size + 2) _ wr hI2 (by omega)
        clear hI2
        go_wp2_with fail
        refine hS.mono ?_
        rintro e w9 ⟨rfl, b9⟩
        clear hS
        have HB9 := Lib.hid (HBW.out.trans (b9.mono (by omega)))
        clear b9
        go_wp2_with fail
        go_ret
        exact ⟨rfl, HB9.out⟩
end Go.Proofs.YtjkmdacgiebbfaaDoor
