/- The document's result. -/
import Derived.Test.YtjkmdacgiebbfaaDoorW13
namespace Go.Proofs.YtjkmdacgiebbfaaDoor
open Go.RowKit Go.Sort
set_option maxRecDepth 100000

abbrev attrObjR (r : Rs) : Obj := .cells #[.int .i64 r.ai, .int .i64 r.ak, .int .i64 r.az, .int .i64 r.ac] 27
theorem rs_numsR (r : Rs) {m : Int} (hm : (if r.more then 1 else 0 : Int) = m) : r.nums = [r.call, r.op, r.st, r.hd, r.ai, r.ak, r.az, r.ac, m] := by unfold Rs.nums; rw [hm]
set_option maxHeartbeats 8000000 in
theorem rresult_any (r : Rs) (w : World) (hR : r.Ok w) (hG : Gl w) : Calls Tryd.prog 13 #[r.val] w fun e w' => e = .returned (.string (tx r.rest)) ∧ Below w.heap.size w w' := by
  obtain ⟨m, hm, hm'⟩ : ∃ m : Int, (if r.more then 1 else 0 : Int) = m ∧ (r.more = true ∧ m = 1 ∨ r.more = false ∧ m = 0) := by
    refine ⟨_, rfl, ?_⟩
    rcases Bool.eq_false_or_eq_true r.more with h | h
    · exact .inl ⟨h, by rw [h]; rfl⟩
    · exact .inr ⟨h, by rw [h]; rfl⟩
  have hN := rs_numsR r hm
  obtain ⟨ao, lc, hlv, _, hlnil⟩ := hR.list.form
  have hX := RBx.new w r
  have b1 : Below w.heap.size w (w.alloc (.cells r.vals 30)) := (Below.refl _ w).alloc (Nat.le_refl _) _
  obtain ⟨d0, d1, d2, d3, d4, d5, d6, d7, d8, d9, d10⟩ := hX.cells
  have hv : r.vals.size = 11 := rfl
  have hr1 : (w.alloc (.cells r.vals 30)).heap.size = w.heap.size + 1 := by simp
  generalize hw1 : w.alloc (.cells r.vals 30) = w1 at *
  have hs2 : (w1.alloc (attrObjR r)).heap.size = w.heap.size + 2 := by simp [hr1]
  have b3 : Below w.heap.size w (w1.alloc (attrObjR r)) := b1.alloc b1.size _
  have hnI : ∀ x ∈ [r.call, r.op, r.st, r.hd, r.ai, r.ak, r.az, r.ac, m], isI x := by
    intro x hx
    exact hR.nums x (by rw [hN]; exact hx)
  have hW := rwords_any [r.call, r.op, r.st, r.hd, r.ai, r.ak, r.az, r.ac, m] ⟨w.heap.size + 2, 0, none⟩ 9 ((w1.alloc (attrObjR r)).alloc (.cells #[.int .i64 r.call, .int .i64 r.op, .int .i64 r.st, .int .i64 r.hd, .int .i64 r.ai, .int .i64 r.ak, .int .i64 r.az, .int .i64 r.ac, .int .i64 m] 3)) (hG.here (b3.alloc (by omega) _)) hnI (by show 9 ≤ 1000; decide) (by rw [← hs2]; exact ints_new _ _ _)
  have hl1 := numsT_len _ hnI
  have HL := Lib.hid (show r.rest = (numsT [r.call, r.op, r.st, r.hd, r.ai, r.ak, r.az, r.ac, m] ++ 32 :: textT r.dl) ++ entsT r.es by
    unfold Rs.rest
    rw [hN])
  simp only [List.length_cons, List.length_nil] at hl1 hW
  generalize numsT [r.call, r.op, r.st, r.hd, r.ai, r.ak, r.az, r.ac, m] = NS at *
  have b4 := b3.alloc (Nat.le_trans (by omega) (Nat.le_of_eq hs2.symm)) (.cells #[.int .i64 r.call, .int .i64 r.op, .int .i64 r.st, .int .i64 r.hd, .int .i64 r.ai, .int .i64 r.ak, .int .i64 r.az, .int .i64 r.ac, .int .i64 m] 3)
  have hX4 := (hX.below ((Below.refl _ w1).alloc (Nat.le_refl _) (attrObjR r))).below ((Below.refl _ (w1.alloc (attrObjR r))).alloc (Nat.le_refl _) (.cells #[.int .i64 r.call, .int .i64 r.op, .int .i64 r.st, .int .i64 r.hd, .int .i64 r.ai, .int .i64 r.ak, .int .i64 r.az, .int .i64 r.ac, .int .i64 m] 3))
  have HX := Lib.hid hX4
  have HB := Lib.hid b4
  have HR := Lib.hid hR
  have HG := Lib.hid hG
  have HLV := Lib.hid hlv
  clear hX b3 b1 hR hG hnI hX4 b4 hN hm
  unfold Rs.val
  rcases hm' with ⟨hm, rfl⟩ | ⟨hm, rfl⟩
  all_goals
    go_enter Tryd.func13, Tryd.ntmps13
    go_wp2_with fail
    refine hW.mono ?_
    rintro e w5 ⟨rfl, b5⟩
    clear hW d0 d1 d2 d3 d4 d5 d6 d7 d8 d9 d10
    have HX6 := Lib.hid (HX.out.below b5)
    have HB6 := Lib.hid (HB.out.trans (b5.mono HB.out.size))
    clear b5 HX HB
    obtain ⟨d0, d1, d2, d3, d4, d5, d6, d7, d8, d9, d10⟩ := HX6.out.cells
    have hD6 := HR.out.data.below HB6.out
    have hcv := conv_B hD6
    have hTx := RText_any (tx r.dl) w5 (by rw [size_tx]; have := HR.out.dlen; omega)
    rw [bs_tx] at hTx
    have htl := textT_len r.dl
    have hdl := HR.out.dlen
    have k1 := cat_l NS ⟨#[32]⟩ (by rw [show (⟨#[32]⟩ : ByteArray).size = 1 from rfl]; omega)
    rw [show bs ⟨#[32]⟩ = [32] from rfl] at k1
    have k2 := cat_tx (NS ++ [32]) (textT r.dl) (by rw [List.length_append, List.length_singleton]; omega)
    have HP := Lib.hid (show NS ++ 32 :: textT r.dl = (NS ++ [32]) ++ textT r.dl by rw [List.append_assoc]; rfl)
    clear hD6
    go_wp2_with fail
    refine hTx.mono ?_
    rintro e w8 ⟨rfl, b8⟩
    clear hTx d0 d1 d2 d3 d4 d5 d6 d7 d8 d9 d10 hcv
    have HX8 := Lib.hid (HX6.out.below b8)
    have HB8 := Lib.hid (HB6.out.trans (b8.mono HB6.out.size))
    clear b8 HX6 HB6
    rw [← HP.out] at k2
    have hP0 : (NS ++ 32 :: textT r.dl).length ≤ 4194600 := by rw [List.length_append, List.length_cons]; omega
    have hel := HR.out.elen
    have heli : (r.es.length : Int) ≤ 1048576 := by omega
    clear HP
    generalize NS ++ 32 :: textT r.dl = P0 at *
    go_wp2_with fail
    go_loopw [5, 6] (fun tv k wr => ∃ q : Nat, q ≤ r.es.length ∧ k = .int .i64 q ∧ tv = .string (tx (P0 ++ entsT (r.es.take q))) ∧ RBx wr w.heap.size r ∧ Below w.heap.size w wr) (fun _ k _ => r.es.length - (intOf k).toNat)
    case atStart => exact ⟨0, Nat.zero_le _, rfl, by simp [entsT], HX8.out, HB8.out⟩
    case round =>
      obtain ⟨q, hq, rfl, rfl, hX, hbw⟩ := hrel
      have d9 := hX.cells.2.2.2.2.2.2.2.2.2.1
      rw [HLV.out] at d9
      have HX := Lib.hid hX
      have HBW := Lib.hid hbw
      clear hX hbw HX8 HB8 k1 k2
      by_cases hlt : q < r.es.length
      · have hEA := HR.out.list.below HBW.out
        rw [HLV.out] at hEA
        cases ao with
        | none => have := hlnil rfl; rw [this] at hlt; simp at hlt
        | some ad =>
          obtain ⟨c0, c1, c2⟩ := hEA.cells q hlt
          have hes := HR.out.ent _ (List.getElem_mem hlt)
          have HT := Lib.hid (ents_take r.es q hlt)
          have hln := ents_len (r.es.take q) fun x hx => HR.out.ent x (List.mem_of_mem_take hx)
          rw [List.length_take] at hln
          obtain ⟨en, hen⟩ : ∃ en, r.es[q] = en := ⟨_, rfl⟩
          rw [hen] at c0 c1 c2 hes HT
          have c00 := (hEA.cells 0 (by omega)).1
          obtain ⟨gb, go, spot⟩ := ad
          have hspot : spot = none := by simpa [Addr.add] using World.cell?_spot c00
          subst hspot
          have hgb : gb < w.heap.size := by
            have hEA0 := HR.out.list
            rw [HLV.out] at hEA0
            have := World.block_lt_of_cell? w _ (hEA0.cells 0 (by omega)).1
            rw [Addr.add_lit] at this
            exact this
          clear c00
          rw [Addr.add_lit, show go + 3 * q = go + q * 3 by omega] at c0
          rw [Addr.add_lit, show go + (3 * q + 1) = go + q * 3 + 1 by omega] at c1
          rw [Addr.add_lit, show go + (3 * q + 2) = go + q * 3 + 2 by omega] at c2
          clear hEA
          go_wp2_with fail
          have hgs : gb < wr.heap.size := Nat.lt_of_lt_of_le hgb HBW.out.size
          have hxs := HX.out.lt
          have kc : ∀ W', Below wr.heap.size wr W' → W'.cell? ⟨w.heap.size, 9, none⟩ = some (.slice (some ⟨gb, go, none⟩) r.es.length lc) ∧ W'.cell? ⟨gb, go + q * 3, none⟩ = some (.string en.name) ∧ W'.cell? ⟨gb, go + q * 3 + 1, none⟩ = some (.int .i64 en.id) ∧ W'.cell? ⟨gb, go + q * 3 + 2, none⟩ = some (.int .i64 en.kind) := fun W' hb =>
            ⟨(hb.cell (p := ⟨w.heap.size, 9, none⟩) hxs).trans d9, (hb.cell (p := ⟨gb, _, none⟩) hgs).trans c0, (hb.cell (p := ⟨gb, _, none⟩) hgs).trans c1, (hb.cell (p := ⟨gb, _, none⟩) hgs).trans c2⟩
          have KC := Lib.hid kc
          have hbd := (Below.refl wr.heap.size wr).drew
          have hcS := kc _ hbd
          have hTx := fun w => RText_any en.name w (by have := hes.1; omega)
          have hwI : ∀ x ∈ [en.id, en.kind], isI x := by intro x hx; simp at hx; rcases hx with rfl | rfl; exact hes.2.1; exact hes.2.2
          have hwl := entw_len en hes
          have htl := textT_len (bs en.name)
          have hnl := hes.1
          rw [size_bs] at htl
          have hwn := numsT_len [en.id, en.kind] hwI
          simp only [List.length_cons, List.length_nil] at hwn
          have k1 := cat_l (P0 ++ entsT (r.es.take q)) ⟨#[32]⟩ (by rw [List.length_append, show (⟨#[32]⟩ : ByteArray).size = 1 from rfl]; omega)
          rw [show bs ⟨#[32]⟩ = [32] from rfl] at k1
          have k2 := cat_tx ((P0 ++ entsT (r.es.take q)) ++ [32]) (textT (bs en.name)) (by simp only [List.length_append, List.length_cons, List.length_nil]; omega)
          have k3 := cat_tx (((P0 ++ entsT (r.es.take q)) ++ [32]) ++ textT (bs en.name)) (numsT [en.id, en.kind]) (by simp only [List.length_append, List.length_cons, List.length_nil]; omega)
          have HW := Lib.hid (show P0 ++ entsT (r.es.take (q + 1)) = (((P0 ++ entsT (r.es.take q)) ++ [32]) ++ textT (bs en.name)) ++ numsT [en.id, en.kind] by
            rw [HT.out]; unfold Ent.word; simp only [List.append_assoc]; rfl)
          have hqi : (q : Int) < (r.es.length : Int) := by omega
          clear kc c0 c1 c2 d9
          generalize P0 ++ entsT (r.es.take q) = T1 at *
          generalize T1 ++ [32] = T2 at *
          generalize T2 ++ textT (bs en.name) = T3 at *
          generalize T3 ++ numsT [en.id, en.kind] = T4 at *
          refine wp_region_held_drew (S := fun w' => w'.cell? ⟨w.heap.size, 9, none⟩ = some (.slice (some ⟨gb, go, none⟩) r.es.length lc) ∧ w'.cell? ⟨gb, go + q * 3, none⟩ = some (.string en.name) ∧ w'.cell? ⟨gb, go + q * 3 + 1, none⟩ = some (.int .i64 en.id) ∧ w'.cell? ⟨gb, go + q * 3 + 2, none⟩ = some (.int .i64 en.kind)) (by kernel_rfl) hcS (fun hHeld => ?_)
          refine wpAnyH_take (i := 0) (oi := ⟨some 44, .move (.tmp 5), 9, "show.go:42", #[], none⟩) (v := (.string (tx T1))) rfl (by kernel_rfl) (by kernel_rfl) (by kernel_rfl) (fun _ _ _ h => h) (Or.inl ⟨by rfl, fun _ _ => by rfl⟩) hHeld ?_
          simp only [Act.put, List.setIfInBounds_toArray, List.set_cons_zero, List.set_cons_succ]
          refine wpAnyH_take (i := 1) (oi := ⟨some 45, .binOp .add 9 (.tmp 44) (.const (.string { data := #[32] })) 9, 9, "show.go:42", #[⟨0, .data⟩], none⟩) (v := (.string (tx T2))) rfl (by kernel_rfl) (by kernel_rfl) (by kernel_rfl) (fun _ _ _ h => h) (Or.inl ⟨by rfl, fun w' h' => by have e := k1; unfold execOp; go_simp⟩) hHeld ?_
          simp only [Act.put, List.setIfInBounds_toArray, List.set_cons_zero, List.set_cons_succ]
          refine wpAnyH_take (i := 2) (oi := ⟨some 46, .fieldAddr 30 (.tmp 1) 6, 0, "show.go:42", #[], none⟩) (v := (.pointer (some ⟨w.heap.size, 9, none⟩))) rfl (by kernel_rfl) (by kernel_rfl) (by kernel_rfl) (fun _ _ _ h => h) (Or.inl ⟨by rfl, fun _ _ => by rfl⟩) hHeld ?_
          simp only [Act.put, List.setIfInBounds_toArray, List.set_cons_zero, List.set_cons_succ]
          refine wpAnyH_take (i := 3) (oi := ⟨some 47, .load 28 (.tmp 46), 28, "show.go:42", #[⟨2, .data⟩], none⟩) (v := (.slice (some ⟨gb, go, none⟩) r.es.length lc)) rfl (by kernel_rfl) (by kernel_rfl) (by kernel_rfl) (fun _ _ _ h => h) (Or.inl ⟨by rfl, fun w' h' => by have e := h'.1; unfold execOp; go_simp⟩) hHeld ?_
          simp only [Act.put, List.setIfInBounds_toArray, List.set_cons_zero, List.set_cons_succ]
          refine wpAnyH_take (i := 4) (oi := ⟨some 48, .move (.tmp 6), 3, "show.go:42", #[], none⟩) (v := (.int .i64 (q : Int))) rfl (by kernel_rfl) (by kernel_rfl) (by kernel_rfl) (fun _ _ _ h => h) (Or.inl ⟨by rfl, fun _ _ => by rfl⟩) hHeld ?_
          simp only [Act.put, List.setIfInBounds_toArray, List.set_cons_zero, List.set_cons_succ]
          refine wpAnyH_take (i := 5) (oi := ⟨some 49, .indexAddr 28 (.tmp 47) (.tmp 48), 0, "show.go:42", #[⟨3, .data⟩, ⟨4, .data⟩], none⟩) (v := (.pointer (some ⟨gb, go + q * 3, none⟩))) rfl (by kernel_rfl) (by kernel_rfl) (by kernel_rfl) (fun _ _ _ h => h) (Or.inl ⟨by rfl, fun w' h' => by unfold execOp; go_simp⟩) hHeld ?_
          simp only [Act.put, List.setIfInBounds_toArray, List.set_cons_zero, List.set_cons_succ]
          refine wpAnyH_take (i := 6) (oi := ⟨some 50, .fieldAddr 60 (.tmp 49) 0, 0, "show.go:42", #[⟨5, .data⟩], none⟩) (v := (.pointer (some ⟨gb, go + q * 3, none⟩))) rfl (by kernel_rfl) (by kernel_rfl) (by kernel_rfl) (fun _ _ _ h => h) (Or.inl ⟨by rfl, fun w' h' => by unfold execOp; go_simp⟩) hHeld ?_
          simp only [Act.put, List.setIfInBounds_toArray, List.set_cons_zero, List.set_cons_succ]
          refine wpAnyH_take (i := 7) (oi := ⟨some 51, .load 9 (.tmp 50), 9, "show.go:42", #[⟨6, .data⟩], none⟩) (v := (.string en.name)) rfl (by kernel_rfl) (by kernel_rfl) (by kernel_rfl) (fun _ _ _ h => h) (Or.inl ⟨by rfl, fun w' h' => by have e := h'.2.1; unfold execOp; go_simp⟩) hHeld ?_
          simp only [Act.put, List.setIfInBounds_toArray, List.set_cons_zero, List.set_cons_succ]
          refine wpAnyH_take (i := 10) (oi := ⟨some 54, .fieldAddr 30 (.tmp 1) 6, 0, "show.go:42", #[], none⟩) (v := (.pointer (some ⟨w.heap.size, 9, none⟩))) rfl (by kernel_rfl) (by kernel_rfl) (by kernel_rfl) (fun _ _ _ h => h) (Or.inl ⟨by rfl, fun _ _ => by rfl⟩) hHeld ?_
          simp only [Act.put, List.setIfInBounds_toArray, List.set_cons_zero, List.set_cons_succ]
          refine wpAnyH_take (i := 11) (oi := ⟨some 55, .load 28 (.tmp 54), 28, "show.go:42", #[⟨10, .data⟩], none⟩) (v := (.slice (some ⟨gb, go, none⟩) r.es.length lc)) rfl (by kernel_rfl) (by kernel_rfl) (by kernel_rfl) (fun _ _ _ h => h) (Or.inl ⟨by rfl, fun w' h' => by have e := h'.1; unfold execOp; go_simp⟩) hHeld ?_
          simp only [Act.put, List.setIfInBounds_toArray, List.set_cons_zero, List.set_cons_succ]
          refine wpAnyH_take (i := 12) (oi := ⟨some 56, .move (.tmp 6), 3, "show.go:42", #[], none⟩) (v := (.int .i64 (q : Int))) rfl (by kernel_rfl) (by kernel_rfl) (by kernel_rfl) (fun _ _ _ h => h) (Or.inl ⟨by rfl, fun _ _ => by rfl⟩) hHeld ?_
          simp only [Act.put, List.setIfInBounds_toArray, List.set_cons_zero, List.set_cons_succ]
          refine wpAnyH_take (i := 13) (oi := ⟨some 57, .indexAddr 28 (.tmp 55) (.tmp 56), 0, "show.go:42", #[⟨11, .data⟩, ⟨12, .data⟩], none⟩) (v := (.pointer (some ⟨gb, go + q * 3, none⟩))) rfl (by kernel_rfl) (by kernel_rfl) (by kernel_rfl) (fun _ _ _ h => h) (Or.inl ⟨by rfl, fun w' h' => by unfold execOp; go_simp⟩) hHeld ?_
          simp only [Act.put, List.setIfInBounds_toArray, List.set_cons_zero, List.set_cons_succ]
          refine wpAnyH_take (i := 14) (oi := ⟨some 58, .fieldAddr 60 (.tmp 57) 1, 0, "show.go:42", #[⟨13, .data⟩], none⟩) (v := (.pointer (some ⟨gb, go + q * 3 + 1, none⟩))) rfl (by kernel_rfl) (by kernel_rfl) (by kernel_rfl) (fun _ _ _ h => h) (Or.inl ⟨by rfl, fun w' h' => by unfold execOp; go_simp⟩) hHeld ?_
          simp only [Act.put, List.setIfInBounds_toArray, List.set_cons_zero, List.set_cons_succ]
          refine wpAnyH_take (i := 15) (oi := ⟨some 59, .load 3 (.tmp 58), 3, "show.go:42", #[⟨14, .data⟩], none⟩) (v := (.int .i64 en.id)) rfl (by kernel_rfl) (by kernel_rfl) (by kernel_rfl) (fun _ _ _ h => h) (Or.inl ⟨by rfl, fun w' h' => by have e := h'.2.2.1; unfold execOp; go_simp⟩) hHeld ?_
          simp only [Act.put, List.setIfInBounds_toArray, List.set_cons_zero, List.set_cons_succ]
          refine wpAnyH_take (i := 16) (oi := ⟨some 60, .fieldAddr 30 (.tmp 1) 6, 0, "show.go:42", #[], none⟩) (v := (.pointer (some ⟨w.heap.size, 9, none⟩))) rfl (by kernel_rfl) (by kernel_rfl) (by kernel_rfl) (fun _ _ _ h => h) (Or.inl ⟨by rfl, fun _ _ => by rfl⟩) hHeld ?_
          simp only [Act.put, List.setIfInBounds_toArray, List.set_cons_zero, List.set_cons_succ]
          refine wpAnyH_take (i := 17) (oi := ⟨some 61, .load 28 (.tmp 60), 28, "show.go:42", #[⟨16, .data⟩], none⟩) (v := (.slice (some ⟨gb, go, none⟩) r.es.length lc)) rfl (by kernel_rfl) (by kernel_rfl) (by kernel_rfl) (fun _ _ _ h => h) (Or.inl ⟨by rfl, fun w' h' => by have e := h'.1; unfold execOp; go_simp⟩) hHeld ?_
          simp only [Act.put, List.setIfInBounds_toArray, List.set_cons_zero, List.set_cons_succ]
          refine wpAnyH_take (i := 18) (oi := ⟨some 62, .move (.tmp 6), 3, "show.go:42", #[], none⟩) (v := (.int .i64 (q : Int))) rfl (by kernel_rfl) (by kernel_rfl) (by kernel_rfl) (fun _ _ _ h => h) (Or.inl ⟨by rfl, fun _ _ => by rfl⟩) hHeld ?_
          simp only [Act.put, List.setIfInBounds_toArray, List.set_cons_zero, List.set_cons_succ]
          refine wpAnyH_take (i := 19) (oi := ⟨some 63, .indexAddr 28 (.tmp 61) (.tmp 62), 0, "show.go:42", #[⟨17, .data⟩, ⟨18, .data⟩], none⟩) (v := (.pointer (some ⟨gb, go + q * 3, none⟩))) rfl (by kernel_rfl) (by kernel_rfl) (by kernel_rfl) (fun _ _ _ h => h) (Or.inl ⟨by rfl, fun w' h' => by unfold execOp; go_simp⟩) hHeld ?_
          simp only [Act.put, List.setIfInBounds_toArray, List.set_cons_zero, List.set_cons_succ]
          refine wpAnyH_take (i := 20) (oi := ⟨some 64, .fieldAddr 60 (.tmp 63) 2, 0, "show.go:42", #[⟨19, .data⟩], none⟩) (v := (.pointer (some ⟨gb, go + q * 3 + 2, none⟩))) rfl (by kernel_rfl) (by kernel_rfl) (by kernel_rfl) (fun _ _ _ h => h) (Or.inl ⟨by rfl, fun w' h' => by unfold execOp; go_simp⟩) hHeld ?_
          simp only [Act.put, List.setIfInBounds_toArray, List.set_cons_zero, List.set_cons_succ]
          refine wpAnyH_take (i := 21) (oi := ⟨some 65, .load 3 (.tmp 64), 3, "show.go:42", #[⟨20, .data⟩], none⟩) (v := (.int .i64 en.kind)) rfl (by kernel_rfl) (by kernel_rfl) (by kernel_rfl) (fun _ _ _ h => h) (Or.inl ⟨by rfl, fun w' h' => by have e := h'.2.2.2; unfold execOp; go_simp⟩) hHeld ?_
          simp only [Act.put, List.setIfInBounds_toArray, List.set_cons_zero, List.set_cons_succ]
          refine wpAnyH_ready (rs := [8, 22]) (by kernel_rfl) (by simp) ?_
          refine AllReadyH.cons (o := ⟨some 52, .call ⟨.value (.func 14), #[.tmp 51], #[9]⟩, 9, "show.go:42", #[⟨7, .data⟩], none⟩) rfl (fun KK hK => ?_) (AllReadyH.cons (o := ⟨some 66, .buildSlice 47 2 #[(0, .tmp 59), (1, .tmp 65)], 47, "show.go:42", #[⟨15, .data⟩, ⟨21, .data⟩], none⟩) rfl (fun KK hK => ?_) (AllReadyH.nil))
          · go_simp
            refine (hTx _).mono ?_
            rintro e w7 ⟨rfl, b7⟩
            have hb7 := hbd.trans (b7.mono hbd.size)
            have hc7 := KC.out _ hb7
            clear hTx b7
            go_wp2_with fail
            refine hK.out _ _ hc7 (fun hHeld => ?_)
            clear hK KK
            try simp only [Act.put, List.setIfInBounds_toArray, List.set_cons_zero, List.set_cons_succ]
            refine wpAnyH_take (i := 9) (oi := ⟨some 53, .binOp .add 9 (.tmp 45) (.tmp 52) 9, 9, "show.go:42", #[⟨1, .data⟩, ⟨8, .data⟩], none⟩) (v := (.string (tx T3))) rfl (by kernel_rfl) (by kernel_rfl) (by kernel_rfl) (fun _ _ _ h => h) (Or.inl ⟨by rfl, fun w' h' => by have e := k2; unfold execOp; go_simp⟩) hHeld ?_
            simp only [Act.put, List.setIfInBounds_toArray, List.set_cons_zero, List.set_cons_succ]
            refine wpAnyH_ready (rs := [22]) (by kernel_rfl) (by simp) ?_
            refine AllReadyH.cons (o := ⟨some 66, .buildSlice 47 2 #[(0, .tmp 59), (1, .tmp 65)], 47, "show.go:42", #[⟨15, .data⟩, ⟨21, .data⟩], none⟩) rfl (fun KK hK => ?_) (AllReadyH.nil)
            go_simp
            have hbA := hb7.alloc hb7.size (.cells #[.int .i64 en.id, .int .i64 en.kind] 3)
            have hcA := KC.out _ hbA
            have hia := ints_new w7 [en.id, en.kind] 3
            refine hK.out _ _ hcA (fun hHeld => ?_)
            clear hK KK
            try simp only [Act.put, List.setIfInBounds_toArray, List.set_cons_zero, List.set_cons_succ]
            refine wpAnyH_ready (rs := [23]) (by kernel_rfl) (by simp) ?_
            refine AllReadyH.cons (o := ⟨some 67, .call ⟨.value (.func 11), #[.tmp 66], #[47]⟩, 9, "show.go:42", #[⟨22, .data⟩, ⟨8, .chain⟩], none⟩) rfl (fun KK hK => ?_) (AllReadyH.nil)
            go_simp
            have hGw := HG.out.here (HBW.out.trans (hbA.mono HBW.out.size))
            refine (rwords_any [en.id, en.kind] _ _ _ hGw hwI (by show 2 ≤ 1000; decide) hia).mono ?_
            rintro e w9 ⟨rfl, b9⟩
            have hb9 := hbA.trans (b9.mono hbA.size)
            have hc9 := KC.out _ hb9
            clear b9 hGw hia
            go_wp2_with fail
            refine hK.out _ _ hc9 (fun hHeld => ?_)
            clear hK KK
            try simp only [Act.put, List.setIfInBounds_toArray, List.set_cons_zero, List.set_cons_succ]
            refine wpAnyH_take (i := 24) (oi := ⟨some 68, .binOp .add 9 (.tmp 53) (.tmp 67) 9, 9, "show.go:42", #[⟨9, .data⟩, ⟨23, .data⟩], none⟩) (v := (.string (tx T4))) rfl (by kernel_rfl) (by kernel_rfl) (by kernel_rfl) (fun _ _ _ h => h) (Or.inl ⟨by rfl, fun w' h' => by have e := k3; unfold execOp; go_simp⟩) hHeld ?_
            simp only [Act.put, List.setIfInBounds_toArray, List.set_cons_zero, List.set_cons_succ]
            refine wpAnyH_take (i := 25) (oi := ⟨some 5, .assign (.tmp 68), 9, "show.go:42", #[⟨24, .data⟩, ⟨23, .chain⟩, ⟨0, .phase⟩, ⟨1, .phase⟩, ⟨2, .phase⟩, ⟨3, .phase⟩, ⟨4, .phase⟩, ⟨5, .phase⟩, ⟨6, .phase⟩, ⟨7, .phase⟩, ⟨8, .phase⟩, ⟨9, .phase⟩, ⟨10, .phase⟩, ⟨11, .phase⟩, ⟨12, .phase⟩, ⟨13, .phase⟩, ⟨14, .phase⟩, ⟨15, .phase⟩, ⟨16, .phase⟩, ⟨17, .phase⟩, ⟨18, .phase⟩, ⟨19, .phase⟩, ⟨20, .phase⟩, ⟨21, .phase⟩, ⟨22, .phase⟩, ⟨23, .phase⟩, ⟨24, .phase⟩], none⟩) (v := (.string (tx T4))) rfl (by kernel_rfl) (by kernel_rfl) (by kernel_rfl) (fun _ _ _ h => h) (Or.inl ⟨by rfl, fun _ _ => by rfl⟩) hHeld ?_
            simp only [Act.put, List.setIfInBounds_toArray, List.set_cons_zero, List.set_cons_succ]
            refine wpAnyH_done (by kernel_rfl) ?_ _
            have HX9 := Lib.hid (HX.out.below hb9)
            have HB9 := Lib.hid (HBW.out.trans (hb9.mono HBW.out.size))
            clear hb9 hc9
            go_wp2_with fail
            go_roundw
            case rel => exact ⟨q + 1, by omega, by go_num, by rw [HW.out], HX9.out, HB9.out⟩
            case measure => simp [intOf]; omega
          · go_simp
            have hbA := hbd.alloc hbd.size (.cells #[.int .i64 en.id, .int .i64 en.kind] 3)
            have hcA := KC.out _ hbA
            have hI0 := ints_new wr.drew [en.id, en.kind] 3
            refine hK.out _ _ hcA (fun hHeld => ?_)
            clear hK KK
            try simp only [Act.put, List.setIfInBounds_toArray, List.set_cons_zero, List.set_cons_succ]
            refine wpAnyH_ready (rs := [8]) (by kernel_rfl) (by simp) ?_
            refine AllReadyH.cons (o := ⟨some 52, .call ⟨.value (.func 14), #[.tmp 51], #[9]⟩, 9, "show.go:42", #[⟨7, .data⟩], none⟩) rfl (fun KK hK => ?_) (AllReadyH.nil)
            go_simp
            refine (hTx _).mono ?_
            rintro e w7 ⟨rfl, b7⟩
            have hb7 := hbA.trans (b7.mono hbA.size)
            have hc7 := KC.out _ hb7
            have hia := hI0.below b7
            clear hTx b7
            go_wp2_with fail
            refine hK.out _ _ hc7 (fun hHeld => ?_)
            clear hK KK
            try simp only [Act.put, List.setIfInBounds_toArray, List.set_cons_zero, List.set_cons_succ]
            refine wpAnyH_take (i := 9) (oi := ⟨some 53, .binOp .add 9 (.tmp 45) (.tmp 52) 9, 9, "show.go:42", #[⟨1, .data⟩, ⟨8, .data⟩], none⟩) (v := (.string (tx T3))) rfl (by kernel_rfl) (by kernel_rfl) (by kernel_rfl) (fun _ _ _ h => h) (Or.inl ⟨by rfl, fun w' h' => by have e := k2; unfold execOp; go_simp⟩) hHeld ?_
            simp only [Act.put, List.setIfInBounds_toArray, List.set_cons_zero, List.set_cons_succ]
            refine wpAnyH_ready (rs := [23]) (by kernel_rfl) (by simp) ?_
            refine AllReadyH.cons (o := ⟨some 67, .call ⟨.value (.func 11), #[.tmp 66], #[47]⟩, 9, "show.go:42", #[⟨22, .data⟩, ⟨8, .chain⟩], none⟩) rfl (fun KK hK => ?_) (AllReadyH.nil)
            go_simp
            have hGw := HG.out.here (HBW.out.trans (hb7.mono HBW.out.size))
            refine (rwords_any [en.id, en.kind] _ _ _ hGw hwI (by show 2 ≤ 1000; decide) hia).mono ?_
            rintro e w9 ⟨rfl, b9⟩
            have hb9 := hb7.trans (b9.mono hb7.size)
            have hc9 := KC.out _ hb9
            clear b9 hGw hia
            go_wp2_with fail
            refine hK.out _ _ hc9 (fun hHeld => ?_)
            clear hK KK
            try simp only [Act.put, List.setIfInBounds_toArray, List.set_cons_zero, List.set_cons_succ]
            refine wpAnyH_take (i := 24) (oi := ⟨some 68, .binOp .add 9 (.tmp 53) (.tmp 67) 9, 9, "show.go:42", #[⟨9, .data⟩, ⟨23, .data⟩], none⟩) (v := (.string (tx T4))) rfl (by kernel_rfl) (by kernel_rfl) (by kernel_rfl) (fun _ _ _ h => h) (Or.inl ⟨by rfl, fun w' h' => by have e := k3; unfold execOp; go_simp⟩) hHeld ?_
            simp only [Act.put, List.setIfInBounds_toArray, List.set_cons_zero, List.set_cons_succ]
            refine wpAnyH_take (i := 25) (oi := ⟨some 5, .assign (.tmp 68), 9, "show.go:42", #[⟨24, .data⟩, ⟨23, .chain⟩, ⟨0, .phase⟩, ⟨1, .phase⟩, ⟨2, .phase⟩, ⟨3, .phase⟩, ⟨4, .phase⟩, ⟨5, .phase⟩, ⟨6, .phase⟩, ⟨7, .phase⟩, ⟨8, .phase⟩, ⟨9, .phase⟩, ⟨10, .phase⟩, ⟨11, .phase⟩, ⟨12, .phase⟩, ⟨13, .phase⟩, ⟨14, .phase⟩, ⟨15, .phase⟩, ⟨16, .phase⟩, ⟨17, .phase⟩, ⟨18, .phase⟩, ⟨19, .phase⟩, ⟨20, .phase⟩, ⟨21, .phase⟩, ⟨22, .phase⟩, ⟨23, .phase⟩, ⟨24, .phase⟩], none⟩) (v := (.string (tx T4))) rfl (by kernel_rfl) (by kernel_rfl) (by kernel_rfl) (fun _ _ _ h => h) (Or.inl ⟨by rfl, fun _ _ => by rfl⟩) hHeld ?_
            simp only [Act.put, List.setIfInBounds_toArray, List.set_cons_zero, List.set_cons_succ]
            refine wpAnyH_done (by kernel_rfl) ?_ _
            have HX9 := Lib.hid (HX.out.below hb9)
            have HB9 := Lib.hid (HBW.out.trans (hb9.mono HBW.out.size))
            clear hb9 hc9
            go_wp2_with fail
            go_roundw
            case rel => exact ⟨q + 1, by omega, by go_num, by rw [HW.out], HX9.out, HB9.out⟩
            case measure => simp [intOf]; omega
      · obtain rfl : q = r.es.length := by omega
        have HE := Lib.hid (show P0 ++ entsT (r.es.take r.es.length) = r.rest by rw [List.take_length, HL.out])
        go_wp2_with fail
        go_ret
        exact ⟨by rw [← HE.out]; rfl, HBW.out⟩
end Go.Proofs.YtjkmdacgiebbfaaDoor
