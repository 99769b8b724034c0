/- JournalSaves. -/
import Derived.Test.YtnmdnglbpkpfdaaGreatDoorPk15
namespace Go.Proofs.YtnmdnglbpkpfdaaGreatDoor
open Go.RowKit Go.Maps
set_option maxRecDepth 100000
set_option maxHeartbeats 4000000 in
theorem saves_any (er : Nat → Addr) (w : World) (hE : Errs w er) (ao : Option Addr) (n c : Nat) (es : List Ed) (hn : n ≤ 140737488355328) (hS : EdLies w ao n es) (com : Bool) :
    Calls Tryz.prog 4 #[.slice ao n c, .bool com] w fun e w' => e = .returned (.bool true) ∧ Below w.heap.size w w' := by
  go_enter Tryz.func4, Tryz.ntmps4
  go_wp2_with fail
  refine (head7 er w hE).mono ?_
  rintro e w1 ⟨rfl, B1⟩
  go_wp2_with fail
  refine (town0 w1).mono ?_
  rintro e w2 ⟨tw, db, N, F, ov, wv, xs, rfl, D2, hN, hF, T2, hxl, hxz, ltw, lov, b2⟩
  obtain ⟨go, co, gw, cw, rfl, rfl⟩ := T2.form hxl
  have s1 := B1.size
  have B2 : Below w.heap.size w w2 := B1.trans (b2.mono s1)
  have hEF : ∀ w', Turns F w2 w' → Errs w' er := fun w' t => hE.below (B2.trans (t.below (fun i r => by have := hF i r; omega) B2.size)) (Nat.le_refl _)
  go_wp2_with fail
  refine (open7 T2 D2 hEF (fun _ => [])).mono ?_
  rintro e w3 ⟨jb, bm, rfl, lj, lb, G, J3, hG3, T3, t3⟩
  have s2 := B2.size
  have sb2 := b2.size
  have B3 := B2.trans (t3.below (fun i r => by have := hF i r; omega) B2.size)
  have s3 := B3.size
  go_wp2_with fail
  refine (Tx.begin J3 F40_calm.on (fun _ => [])).mono ?_
  rintro e w4 ⟨tb, wm, rfl, l1, l2, X4, t4⟩
  have T4 := T3.kp (Kp.turns t4 (fun x cs ty fz g hx ht e => e.elim g (jty_jb J3.J hx ht)))
  have gB : ∀ i, G i → w.heap.size ≤ i := fun i r => (hG3 i r).elim (fun r => by have := hF i r; omega) (fun r => by omega)
  have B4 := B3.trans (t4.below (fun i r => r.elim (gB i) (fun e => by omega)) s3)
  have y4 : w4.cell? ⟨tw, 4, none⟩ = some (.slice (some ⟨gw, 0, none⟩) 10 cw) := by simp [World.cell?, T4.box]
  clear t3 t4 hG3 hEF b2 T2 D2 J3 T3
  go_wp2_with fail
  refine (copied7 T4.x (by omega) X4.D.lt).mono ?_
  rintro e w5 ⟨nv, rfl, N5, ln5, b5⟩
  have s4 := B4.size
  have X5 := X4.below b5
  have T5 := T4.kp (Kp.below b5)
  have B5 := B4.trans (b5.mono s4)
  have HW : Hid (∀ b, (Value.slice (some ⟨gw, 0, none⟩) 10 cw).ownBlock = some b → b < w4.heap.size) := fun b hb => (T4.x.row.lt b hb).2
  clear X4 T4 y4
  obtain ⟨gn, cn, rfl⟩ := N5.form hxl
  have sb5 := B5.size
  have HR : Hid (SvR w (w5.alloc (.cells #[.int .i64 0, .slice (some ⟨gn, 0, none⟩) 10 cn, .slice none 0 0] 54)) G tw db (.slice (some ⟨go, 0, none⟩) 10 co) (.slice (some ⟨gw, 0, none⟩) 10 cw) xs jb bm tb w5.heap.size N 0 (.slice none 0 0) 0) := by
    obtain ⟨W6, hW6⟩ : ∃ W, w5.alloc (.cells #[.int .i64 0, .slice (some ⟨gn, 0, none⟩) 10 cn, .slice none 0 0] 54) = W := ⟨_, rfl⟩
    have b6 : Below w5.heap.size w5 W6 := by rw [← hW6]; exact (Below.refl _ w5).alloc (Nat.le_refl _) _
    have Q6 : W6.heap[w5.heap.size]? = some (.cells #[.int .i64 0, .slice (some ⟨gn, 0, none⟩) 10 cn, .slice none 0 0] 54) := by rw [← hW6]; exact (MapKept.heap_alloc w5 _).1
    obtain ⟨q, hqq⟩ : ∃ q, w5.heap.size = q := ⟨_, rfl⟩
    rw [hqq] at Q6
    rw [hW6, hqq]
    show SvR w W6 G tw db (.slice (some ⟨go, 0, none⟩) 10 co) (.slice (some ⟨gw, 0, none⟩) 10 cw) xs jb bm tb q N 0 (.slice none 0 0) 0
    have hGl := X5.D.lt
    have lgn := ln5 gn rfl
    have X6 := X5.below b6
    have N6 := N5.kp (Kp.below b6)
    refine ⟨⟨wm, 0, [], fun _ => [], .slice none 0 0, [], ⟨0, _, .slice none 0 0, xs⟩, [], ⟨X6, ⟨⟨rfl, Or.inl ⟨rfl, rfl⟩⟩, List.Pairwise.nil, (fun _ h => by cases h), (fun _ h => by cases h), (fun _ h => by cases h), (fun _ h => by cases h)⟩, Q6, fun r => by have := hGl q r; omega, (fun _ h => by cases h), ⟨rfl, Or.inl ⟨rfl, rfl⟩⟩, (fun _ h => by cases h), rfl, (fun i t e h => by cases h), (fun _ h => by cases h), fun e => ?_, (fun h => by cases h), by omega, (fun _ h => by cases h), fun b hb => by cases hb; show w.heap.size ≤ gn; omega, (fun _ h => by cases h), by simp⟩, ⟨N6, hxl, ⟨⟨rfl, Or.inl ⟨rfl, rfl⟩⟩, (fun _ h => by cases h)⟩, fun k o x ho hx => ?_⟩⟩, T5.kp (Kp.below b6), B5.trans (b6.mono sb5)⟩
    · have := HW.out gn e; omega
    · rw [hxz x (List.mem_of_getElem? hx)]
      have := outs_in (List.mem_of_getElem? ho)
      exact (F40_out this.1 (by omega)).symm
  clear X5 T5 N5 B5
  go_wp2_with fail
  have R6 := HR.out
  clear HR
  obtain ⟨W6, hW6⟩ : ∃ W, w5.alloc (.cells #[.int .i64 0, .slice (some ⟨gn, 0, none⟩) 10 cn, .slice none 0 0] 54) = W := ⟨_, rfl⟩
  rw [hW6] at R6 ⊢
  obtain ⟨q, hqq⟩ : ∃ q, w5.heap.size = q := ⟨_, rfl⟩
  rw [hqq] at R6 ⊢
  clear hW6
  go_loopw [5, 13, 14, 15] (fun okv svv lv i wr => ∃ (k la : Nat), okv = .bool true ∧ k ≤ n ∧ k ≤ 100 ∧ i = .int .i64 k ∧ lv = .int .i64 la ∧ SvR w wr G tw db (.slice (some ⟨go, 0, none⟩) 10 co) (.slice (some ⟨gw, 0, none⟩) 10 cw) xs jb bm tb q N k svv la) (fun _ _ _ i _ => 100 - (intOf i).toNat)
  case atStart => exact ⟨0, 0, rfl, by omega, by omega, rfl, rfl, R6⟩
  case round =>
    clear R6
    obtain ⟨k, la, rfl, hkn, hk, rfl, rfl, R⟩ := hrel
    have hni : (n : Int) ≤ 140737488355328 := by omega
    obtain ⟨⟨wm, ns, m, f, sv, l, s, ss, Y, So⟩, T, Br⟩ := R
    by_cases hlt : k < n ∧ k < 100
    · obtain ⟨hlt1, hlt2⟩ := hlt
      have hk1 : (k : Int) < n := by omega
      have hk2 : (k : Int) < 100 := by omega
      obtain ⟨e, he⟩ : ∃ e, es[k]? = some e := ⟨_, List.getElem?_eq_getElem (by rw [hS.hlen]; exact hlt1)⟩
      obtain ⟨I, ge, pe, rfl, hc⟩ := hS.hcells k e he
      have z0 : wr.cell? ⟨ge, pe + k * 4, none⟩ = some (.int .i64 e.kind) := cell_later Br (hc 0 _ rfl)
      have z1 : wr.cell? ⟨ge, pe + k * 4 + 1, none⟩ = some (.int .i64 e.kk) := cell_later Br (hc 1 _ rfl)
      have z2 : wr.cell? ⟨ge, pe + k * 4 + 2, none⟩ = some (.int .i64 e.pb) := cell_later Br (hc 2 _ rfl)
      have z3 : wr.cell? ⟨ge, pe + k * 4 + 3, none⟩ = some (.slice e.da e.dn e.dc) := cell_later Br (hc 3 _ rfl)
      have HY : Hid (SvY w.heap.size wr G jb bm tb db q N k (.slice (some ⟨gw, 0, none⟩) 10 cw) u13 la wm ns m f sv l s ss ∧ StOk wr G s m f ∧ Tn wr G tw db (.slice (some ⟨go, 0, none⟩) 10 co) (.slice (some ⟨gw, 0, none⟩) 10 cw) (outs 40) xs ∧ EdIn w e) := ⟨Y, So, T, I⟩
      clear Y So T I hc he
      go_wp2_with fail
      obtain ⟨Y, So, T, I⟩ := HY.out
      clear HY z0 z1 z2 z3
      obtain ⟨W1, hW1⟩ : ∃ W, wr.alloc (.cells #[.int .i64 e.kind, .int .i64 e.kk, .int .i64 e.pb, .slice e.da e.dn e.dc] 60) = W := ⟨_, rfl⟩
      have b1 : Below wr.heap.size wr W1 := by rw [← hW1]; exact (Below.refl _ wr).alloc (Nat.le_refl _) _
      have Q1 : W1.heap[wr.heap.size]? = some (.cells #[.int .i64 e.kind, .int .i64 e.kk, .int .i64 e.pb, .slice e.da e.dn e.dc] 60) := by rw [← hW1]; exact (MapKept.heap_alloc wr _).1
      try rw [hW1]
      obtain ⟨qx, hqx⟩ : ∃ q, wr.heap.size = q := ⟨_, rfl⟩
      rw [hqx] at Q1
      try rw [hqx]
      have Y1 := Y.below b1
      have S1 := So.kp (Kp.below b1)
      have T1 := T.kp (Kp.below b1)
      have sB := Br.size
      have B1' := Br.trans (b1.mono sB)
      have x0 : W1.cell? ⟨qx, 0, none⟩ = some (.int .i64 e.kind) := by simp [World.cell?, Q1]
      have x1 : W1.cell? ⟨qx, 1, none⟩ = some (.int .i64 e.kk) := by simp [World.cell?, Q1]
      have x3 : W1.cell? ⟨qx, 3, none⟩ = some (.slice e.da e.dn e.dc) := by simp [World.cell?, Q1]
      have hGq := Y.X.D.lt
      clear hW1 Y So T b1 Br
      refine (place7 T1 outs_len e.pb).mono ?_
      rintro e' w' ⟨j, hj, rfl, rfl⟩
      have hji : (j : Int) < 10 := by omega
      by_cases k1 : e.kind = 1
      · as_aux_lemma =>
        have hris := Y1.X.M.ris
        have hm10 := outs_few hris Y1.mo
        obtain ⟨gn, cn, hv⟩ := S1.x.form S1.len
        obtain ⟨o, hoj⟩ : ∃ o, (outs 40)[j]? = some o := ⟨_, List.getElem?_eq_getElem (by rw [outs_len]; exact hj)⟩
        obtain ⟨x9, hx9⟩ : ∃ x, xs[j]? = some x := ⟨_, List.getElem?_eq_getElem (by rw [hxl]; exact hj)⟩
        obtain ⟨x8, hx8⟩ : ∃ x, s.xs[j]? = some x := ⟨_, List.getElem?_eq_getElem (by rw [S1.len]; exact hj)⟩
        have hom := List.mem_of_getElem? hoj
        have HO : Hid (o < 40 ∧ (o < 2 ∨ 2 + 30 ≤ o)) := outs_in hom
        have HV : Hid (s.v = .slice (some ⟨gn, 0, none⟩) 10 cn) := hv
        clear hv
        have gqx : ¬ G qx := fun r => by have := hGq qx r; omega
        have hSx : ∀ w'' : World, Tn w'' G tw db (.slice (some ⟨go, 0, none⟩) 10 co) (.slice (some ⟨gw, 0, none⟩) 10 cw) (outs 40) xs → w''.heap[qx]? = some (.cells #[.int .i64 e.kind, .int .i64 e.kk, .int .i64 e.pb, .slice e.da e.dn e.dc] 60) → (w''.cell? ⟨tw, 3, none⟩ = some (.slice (some ⟨go, 0, none⟩) 10 co) ∧ w''.cell? ⟨go, j, none⟩ = some (.int .i64 (o : Nat)) ∧ w''.cell? ⟨qx, 3, none⟩ = some (.slice e.da e.dn e.dc)) := fun w'' hT hQ => ⟨(hT.cells hxl hj hoj hx9).c3, (hT.cells hxl hj hoj hx9).ck, by simp [World.cell?, hQ]⟩
        have dY := Y1.below (w' := w'.drew) ⟨rfl, rfl, rfl, Nat.le_refl _, fun _ _ => rfl⟩
        have dS := S1.kp (Kp.below (G := G) (w := w') (w' := w'.drew) ⟨rfl, rfl, rfl, Nat.le_refl _, fun _ _ => rfl⟩)
        have dT := T1.kp (Kp.below (w' := w'.drew) ⟨rfl, rfl, rfl, Nat.le_refl _, fun _ _ => rfl⟩)
        have dB : Below w.heap.size w w'.drew := B1'.trans ((show Below w'.heap.size w' w'.drew from ⟨rfl, rfl, rfl, Nat.le_refl _, fun _ _ => rfl⟩).mono B1'.size)
        have dQ : w'.drew.heap[qx]? = some (.cells #[.int .i64 e.kind, .int .i64 e.kk, .int .i64 e.pb, .slice e.da e.dn e.dc] 60) := Q1
        have dL := I.d.below dB (Nat.le_refl _)
        have k0 := hSx _ dT dQ
        generalize e.kind = kd at *
        subst k1
        go_wp2_with fail
        go_region_held3 (fun w'' => w''.cell? ⟨tw, 3, none⟩ = some (.slice (some ⟨go, 0, none⟩) 10 co) ∧ w''.cell? ⟨go, j, none⟩ = some (.int .i64 (o : Nat)) ∧ w''.cell? ⟨qx, 3, none⟩ = some (.slice e.da e.dn e.dc))
          (first | exact k0 | exact ka | exact kb)
          (first
            | (go_at_call 28; refine (block7 e.da e.dn e.dc e.ds w'.drew I.n dL).mono ?_; rintro e' wa ⟨ga, ca, rfl, oa, ba⟩; have Ya := dY.below ba; have Sa := dS.kp (Kp.below ba); have Ta := dT.kp (Kp.below ba); have Qa := (ba.block qx (heap_lt dQ)).trans dQ; have ka := hSx _ Ta Qa; have La : Lies wa (some ⟨ga, 0, none⟩) 512 ca (blkB e.ds) := Lies.owned oa; have hga : ¬ G ga := fun r => by { have h1 := dY.X.D.lt ga r; have h2 := (oa.lt ga rfl).1; omega })
            | (go_at_call 27; refine (Tx.write Ya.X F40_calm.on (by omega) o HO.out.1 HO.out.2 (some ⟨ga, 0, none⟩) ca _ La (blkB_by I.y) (fun ad e => by { cases e; exact hga }) (Or.inr (by have := outs_few Ya.X.M.ris Ya.mo; omega)) (by have := Ya.kn; omega)).mono ?_; rintro e' wb ⟨gb, rfl, lgb, Xb, tb'⟩; have Yb := Ya.wrote Xb tb' hom; have Kb : Kp G wa wb := Kp.turns tb' (fun x cs ty fz gx hx ht e => e.elim gx (fun e => mp_cells Ya.X.M hx e)); have Tb' := Ta.kp Kb; have Qb := Kb.block _ _ _ _ gqx Qa (by decide); have kb := hSx _ Tb' Qb))
        have Bb : Below w.heap.size w wb := (dB.trans (ba.mono dB.size)).trans (tb'.below (fun i r => r.elim (gB i) (fun e => by have := Ya.lw; omega)) (Nat.le_trans dB.size ba.size))
        have xb := (Sa.x.kp Kb).kp (Kp.below (w' := wb.drew) ⟨rfl, rfl, rfl, Nat.le_refl _, fun _ _ => rfl⟩)
        have nb := (Sa.n.kp Kb).kp (Kp.below (w' := wb.drew) ⟨rfl, rfl, rfl, Nat.le_refl _, fun _ _ => rfl⟩)
        have eY := Yb.below (w' := wb.drew) ⟨rfl, rfl, rfl, Nat.le_refl _, fun _ _ => rfl⟩
        have eT := Tb'.kp (Kp.below (w' := wb.drew) ⟨rfl, rfl, rfl, Nat.le_refl _, fun _ _ => rfl⟩)
        have eB : Below w.heap.size w wb.drew := Bb.trans ((show Below wb.heap.size wb wb.drew from ⟨rfl, rfl, rfl, Nat.le_refl _, fun _ _ => rfl⟩).mono Bb.size)
        have eL := I.d.below eB (Nat.le_refl _)
        have eQ : wb.drew.heap[qx]? = _ := Qb
        have hS4 : ∀ w'' : World, w''.heap[q]? = some (.cells #[.int .i64 0, s.v, s.u] 54) → w''.heap[qx]? = wb.drew.heap[qx]? → (w''.cell? ⟨q, 1, none⟩ = some (.slice (some ⟨gn, 0, none⟩) 10 cn) ∧ w''.cell? ⟨qx, 3, none⟩ = some (.slice e.da e.dn e.dc)) := fun w'' h1 h2 => ⟨by simp [World.cell?, h1, HV.out], by rw [eQ] at h2; simp [World.cell?, h2]⟩
        have k4 := hS4 _ eY.box rfl
        clear dY dS dT dQ dL Ya Sa Ta Qa ka La k0 kb Xb tb' Y1 T1 Q1 x0 x1 x3 Kb
        go_wp2_with (go_at_call 15; refine (num7 _ _).mono ?_; rintro e' wn ⟨rfl, hwn⟩; subst wn)
        go_region_held3 (fun w'' => w''.cell? ⟨q, 1, none⟩ = some (.slice (some ⟨gn, 0, none⟩) 10 cn) ∧ w''.cell? ⟨qx, 3, none⟩ = some (.slice e.da e.dn e.dc))
          (first | exact k4 | exact kc | exact kf)
          (first
            | (go_at_call 28; refine (block7 e.da e.dn e.dc e.ds wb.drew I.n eL).mono ?_; rintro e' wc ⟨gc, cc, rfl, oc, bc⟩; have Yc := eY.below bc; have xc := xb.kp (Kp.below bc); have nc := nb.kp (Kp.below bc); have Tc := eT.kp (Kp.below bc); have Qc := (bc.block qx (heap_lt eQ)); have kc := hS4 _ Yc.box Qc; have rc : wc.ownsRow 0 56 1 (.slice (some ⟨gn, 0, none⟩) 10 cn) 10 (s.xs.map It.val) := by { have := xc.row; rwa [S1.len, HV.out] at this }; have zf := rc.frozenAt j; have zc : wc.cell? ⟨gn, j, none⟩ = some (It.val x8) := by { rw [rc.cellAt j (by omega), List.getElem?_map, hx8]; rfl }; have Ic : ItOk wc G ⟨gc, cc, blkB e.ds⟩ := ⟨own_zero oc, fun r => by { have h1 := eY.X.D.lt gc r; have h2 := (oc.lt gc rfl).1; omega }, blkB_by I.y⟩; obtain ⟨Y9, X9, T9, t9⟩ := Yc.put (k := j) HV.out xc S1.len Ic Tc; have Q9 := (t9.block qx (heap_lt (Qc.trans eQ)) (fun e => by { obtain ⟨cs, fz, hh⟩ := own_heap rc; rw [← e, Qc, eQ] at hh; simp at hh })).trans Qc; have kf := hS4 _ Y9.box Q9))
        have HW9 : Hid (wc.setCell ⟨gn, j, none⟩ (.slice (some ⟨gc, 0, none⟩) 512 cc) = wc.setCell ⟨gn, j, none⟩ (It.val ⟨gc, cc, blkB e.ds⟩)) := rfl
        obtain ⟨W9, hW9⟩ : ∃ W, wc.setCell ⟨gn, j, none⟩ (.slice (some ⟨gc, 0, none⟩) 512 cc) = W := ⟨_, rfl⟩
        rw [← HW9.out] at Y9 X9 T9 t9
        rw [hW9] at Y9 X9 T9 t9 ⊢
        have n9 : Ns W9 G s.u (m.map (·.1)) := nc.turn1 (own_heap rc).choose_spec.choose_spec (by decide) t9
        have B9 : Below w.heap.size w W9 := (eB.trans (bc.mono eB.size)).trans (t9.below (fun i e => by have := Yc.ls gn (by rw [HV.out]; rfl); omega) (Nat.le_trans eB.size bc.size))
        clear hW9 HW9 Q9 kf kc k4 hS4 Qc zf zc rc Yc xc nc Tc Ic oc bc eY eT eQ eL xb nb Yb Tb' Qb Bb
        have gY := Y9.below (w' := W9.drew) ⟨rfl, rfl, rfl, Nat.le_refl _, fun _ _ => rfl⟩
        have gT := T9.kp (Kp.below (w' := W9.drew) ⟨rfl, rfl, rfl, Nat.le_refl _, fun _ _ => rfl⟩)
        have gN := n9.kp (Kp.below (w' := W9.drew) ⟨rfl, rfl, rfl, Nat.le_refl _, fun _ _ => rfl⟩)
        have gX := X9.kp (Kp.below (w' := W9.drew) ⟨rfl, rfl, rfl, Nat.le_refl _, fun _ _ => rfl⟩)
        have C9 := gT.cells hxl hj hoj hx9
        have y3 := C9.c3
        have yk := C9.ck
        have y2 : W9.drew.cell? ⟨q, 2, none⟩ = some s.u := by simp [World.cell?, gY.box]
        go_wp2_with fail
        refine wp_region_held_drew (S := fun w'' => w''.cell? ⟨tw, 3, none⟩ = some (.slice (some ⟨go, 0, none⟩) 10 co) ∧ w''.cell? ⟨go, j, none⟩ = some (.int .i64 (o : Nat))) (by kernel_rfl) ⟨y3, yk⟩ (fun hHeld => ?_)
        refine wpAnyH_take (i := 0) (oi := ⟨some 109, .fieldAddr 54 (.tmp 12) 2, 0, "free.go:390", #[], none⟩) (v := (.pointer (some ⟨q, 2, none⟩))) rfl (by kernel_rfl) (by kernel_rfl) (by kernel_rfl) (fun _ _ _ h => h) (Or.inl ⟨by rfl, fun _ _ => by rfl⟩) hHeld ?_
        simp only [Act.put, List.setIfInBounds_toArray, List.set_cons_zero, List.set_cons_succ]
        refine wpAnyH_take (i := 2) (oi := ⟨some 111, .move (.tmp 6), 25, "free.go:390", #[], none⟩) (v := (.pointer (some ⟨tw, 0, none⟩))) rfl (by kernel_rfl) (by kernel_rfl) (by kernel_rfl) (fun _ _ _ h => h) (Or.inl ⟨by rfl, fun _ _ => by rfl⟩) hHeld ?_
        simp only [Act.put, List.setIfInBounds_toArray, List.set_cons_zero, List.set_cons_succ]
        refine wpAnyH_take (i := 3) (oi := ⟨some 112, .nilCheck (.tmp 111), 0, "free.go:390", #[⟨2, .data⟩], none⟩) (v := (.pointer (some ⟨tw, 0, none⟩))) rfl (by kernel_rfl) (by kernel_rfl) (by kernel_rfl) (fun _ _ _ h => h) (Or.inl ⟨by rfl, fun _ _ => by rfl⟩) hHeld ?_
        simp only [Act.put, List.setIfInBounds_toArray, List.set_cons_zero, List.set_cons_succ]
        refine wpAnyH_take (i := 4) (oi := ⟨some 113, .fieldAddr 42 (.tmp 112) 3, 0, "free.go:390", #[⟨3, .data⟩], none⟩) (v := (.pointer (some ⟨tw, 3, none⟩))) rfl (by kernel_rfl) (by kernel_rfl) (by kernel_rfl) (fun _ _ _ h => h) (Or.inl ⟨by rfl, fun _ _ => by rfl⟩) hHeld ?_
        simp only [Act.put, List.setIfInBounds_toArray, List.set_cons_zero, List.set_cons_succ]
        refine wpAnyH_take (i := 5) (oi := ⟨some 114, .load 40 (.tmp 113), 40, "free.go:390", #[⟨4, .data⟩], none⟩) (v := (.slice (some ⟨go, 0, none⟩) 10 co)) rfl (by kernel_rfl) (by kernel_rfl) (by kernel_rfl) (fun _ _ _ h => h) (Or.inl ⟨by rfl, fun w' h' => by have e1 := h'.1; unfold execOp; go_simp⟩) hHeld ?_
        simp only [Act.put, List.setIfInBounds_toArray, List.set_cons_zero, List.set_cons_succ]
        refine wpAnyH_take (i := 6) (oi := ⟨some 115, .move (.tmp 17), 3, "free.go:390", #[], none⟩) (v := (.int .i64 (j : Nat))) rfl (by kernel_rfl) (by kernel_rfl) (by kernel_rfl) (fun _ _ _ h => h) (Or.inl ⟨by rfl, fun _ _ => by rfl⟩) hHeld ?_
        simp only [Act.put, List.setIfInBounds_toArray, List.set_cons_zero, List.set_cons_succ]
        refine wpAnyH_take (i := 7) (oi := ⟨some 116, .indexAddr 40 (.tmp 114) (.tmp 115), 0, "free.go:390", #[⟨5, .data⟩, ⟨6, .data⟩], none⟩) (v := (.pointer (some ⟨go, j, none⟩))) rfl (by kernel_rfl) (by kernel_rfl) (by kernel_rfl) (fun _ _ _ h => h) (Or.inl ⟨by rfl, fun w' h' => by unfold execOp; go_simp⟩) hHeld ?_
        simp only [Act.put, List.setIfInBounds_toArray, List.set_cons_zero, List.set_cons_succ]
        refine wpAnyH_take (i := 8) (oi := ⟨some 117, .load 3 (.tmp 116), 3, "free.go:390", #[⟨7, .data⟩], none⟩) (v := (.int .i64 (o : Nat))) rfl (by kernel_rfl) (by kernel_rfl) (by kernel_rfl) (fun _ _ _ h => h) (Or.inl ⟨by rfl, fun w' h' => by have e1 := h'.2; unfold execOp; go_simp⟩) hHeld ?_
        simp only [Act.put, List.setIfInBounds_toArray, List.set_cons_zero, List.set_cons_succ]
        refine wpAnyH_ready (rs := [1]) (by kernel_rfl) (by simp) ?_
        refine AllReadyH.cons (o := ⟨some 110, .load 40 (.tmp 109), 40, "free.go:390", #[⟨0, .data⟩], none⟩) rfl (fun KK hK => ?_) (AllReadyH.nil)
        go_simp
        refine hK.out _ _ ⟨y3, yk⟩ (fun hHeld => ?_)
        clear hK KK
        try simp only [Act.put, List.setIfInBounds_toArray, List.set_cons_zero, List.set_cons_succ]
        refine wpAnyH_ready (rs := [9]) (by kernel_rfl) (by simp) ?_
        refine AllReadyH.cons (o := ⟨some 118, .call ⟨.value (.func 29), #[.tmp 110, .tmp 117], #[40, 3]⟩, 40, "free.go:390", #[⟨1, .data⟩, ⟨8, .data⟩], none⟩) rfl (fun KK hK => ?_) (AllReadyH.nil)
        go_simp
        refine (with7 gN (by simp; omega) o (by have := HO.out; omega) gY.X.D.lt).mono ?_
        rintro e' wd ⟨vd, rfl, nd, ld, bd⟩
        rcases row_nat nd.row with ⟨rfl, h0⟩ | ⟨gd, cd, rfl, _⟩
        · rw [withF_put m o gb, List.length_map] at h0
          have h9 := lk_mput m o gb o hris
          rw [List.eq_nil_of_length_eq_zero h0] at h9
          simp [lk] at h9
        have Yd := gY.below bd
        have Td := gT.kp (Kp.below bd)
        have Xd := gX.kp (Kp.below bd)
        have Cd := Td.cells hxl hj hoj hx9
        have zq : wd.cell? ⟨q, 2, none⟩ = some s.u := by simp [World.cell?, Yd.box]
        have zfq : wd.frozen? ⟨q, 2, none⟩ = false := by simp [World.frozen?, Yd.box]
        obtain ⟨YZ, TZ, tZ⟩ := Yd.seen (.slice (some ⟨gd, 0, none⟩) (withF (m.map (·.1)) o).length cd) Td
        have CZ := TZ.cells hxl hj hoj hx9
        refine hK.out _ _ ⟨Cd.c3, Cd.ck⟩ (fun hHeld => ?_)
        clear hK KK
        try simp only [Act.put, List.setIfInBounds_toArray, List.set_cons_zero, List.set_cons_succ]
        refine wpAnyH_take (i := 10) (oi := ⟨some 119, .fieldAddr 54 (.tmp 12) 2, 0, "free.go:390", #[⟨0, .phase⟩, ⟨1, .phase⟩, ⟨2, .phase⟩, ⟨3, .phase⟩, ⟨4, .phase⟩, ⟨5, .phase⟩, ⟨6, .phase⟩, ⟨7, .phase⟩, ⟨8, .phase⟩, ⟨9, .phase⟩], none⟩) (v := (.pointer (some ⟨q, 2, none⟩))) rfl (by kernel_rfl) (by kernel_rfl) (by kernel_rfl) (fun _ _ _ h => h) (Or.inl ⟨by rfl, fun _ _ => by rfl⟩) hHeld ?_
        simp only [Act.put, List.setIfInBounds_toArray, List.set_cons_zero, List.set_cons_succ]
        refine wpAnyH_ready (rs := [11]) (by kernel_rfl) (by simp) ?_
        refine AllReadyH.cons (o := ⟨none, .store 40 (.tmp 119) (.tmp 118), 0, "free.go:390", #[⟨10, .data⟩, ⟨9, .data⟩, ⟨9, .chain⟩, ⟨0, .phase⟩, ⟨1, .phase⟩, ⟨2, .phase⟩, ⟨3, .phase⟩, ⟨4, .phase⟩, ⟨5, .phase⟩, ⟨6, .phase⟩, ⟨7, .phase⟩, ⟨8, .phase⟩, ⟨9, .phase⟩], none⟩) rfl (fun KK hK => ?_) (AllReadyH.nil)
        go_simp
        refine hK.out _ _ ⟨CZ.c3, CZ.ck⟩ (fun hHeld => ?_)
        clear hK KK
        try simp only [Act.put, List.setIfInBounds_toArray, List.set_cons_zero, List.set_cons_succ]
        refine wpAnyH_done (by kernel_rfl) ?_ _
        have hw9 := withF_put m o gb
        obtain ⟨WZ, hWZ⟩ : ∃ W, wd.setCell ⟨q, 2, none⟩ (.slice (some ⟨gd, 0, none⟩) (withF (m.map (·.1)) o).length cd) = W := ⟨_, rfl⟩
        rw [hWZ] at YZ TZ tZ ⊢
        have SZ : StOk WZ G ⟨s.mark, s.v, (.slice (some ⟨gd, 0, none⟩) (withF (m.map (·.1)) o).length cd), s.xs.set j ⟨gc, cc, blkB e.ds⟩⟩ (mput m o gb) (updF f o (blkB e.ds)) := ⟨Xd.turn1 Yd.box (by decide) (by decide) tZ, by simp [S1.len], by rw [← hw9]; exact nd.turn1 Yd.box (by decide) tZ, put_see hris S1.see hoj ⟨gc, cc, blkB e.ds⟩⟩
        have BZ : Below w.heap.size w WZ := (B9.trans ((Below.fromDrew bd).mono B9.size)).trans (tZ.below (fun i e => by omega) (Nat.le_trans B9.size bd.size))
        clear hw9 hWZ CZ tZ Yd Td Xd Cd zq zfq nd ld bd gY gT gN gX C9 y3 yk y2 Y9 X9 T9 t9 n9 B9
        have dY := YZ.below (w' := WZ.drew) ⟨rfl, rfl, rfl, Nat.le_refl _, fun _ _ => rfl⟩
        have dS := SZ.kp (Kp.below (G := G) (w := WZ) (w' := WZ.drew) ⟨rfl, rfl, rfl, Nat.le_refl _, fun _ _ => rfl⟩)
        have c2 : WZ.drew.cell? ⟨q, 2, none⟩ = some (.slice (some ⟨gd, 0, none⟩) (withF (m.map (·.1)) o).length cd) := show WZ.cell? ⟨q, 2, none⟩ = some (.slice (some ⟨gd, 0, none⟩) (withF (m.map (·.1)) o).length cd) by simp [World.cell?, YZ.box]
        have hml := outs_few YZ.X.M.ris YZ.mo
        go_wp2_with (go_at_call 15; refine (num7 _ _).mono ?_; rintro e' wn ⟨rfl, hwn⟩; subst wn)
        go_region_held3 (fun w' => w'.cell? ⟨q, 2, none⟩ = some (.slice (some ⟨gd, 0, none⟩) (withF (m.map (·.1)) o).length cd))
          (first | exact c2 | exact c2b | exact c2c)
          (first
            | (go_at_call 16; refine (blocks_ok dY.X.T dY.X.M (by omega)).mono ?_; rintro e' wb ⟨gB, cB, rfl, rB, bB⟩; have Yb := dY.below bB; have Sb := dS.kp (Kp.below bB); have c2b : wb.cell? ⟨q, 2, none⟩ = some (.slice (some ⟨gd, 0, none⟩) (withF (m.map (·.1)) o).length cd) := by { simp [World.cell?, Yb.box] })
            | (go_at_call 35; refine (sameInts7 (G := fun _ => False) (H := G) (l := (mput m o gb).map (·.1)) ⟨by { rw [List.length_map, List.map_map]; exact own_zero rB }, fun _ _ => id⟩ Sb.n (by simp; omega)).mono ?_; rintro e' wc ⟨rfl, bC⟩; have Yc := Yb.below bC; have Sc := Sb.kp (Kp.below bC); have c2c : wc.cell? ⟨q, 2, none⟩ = some (.slice (some ⟨gd, 0, none⟩) (withF (m.map (·.1)) o).length cd) := by { simp [World.cell?, Yc.box] }))
        all_goals
          have Tc := ((TZ.kp (Kp.below (w' := WZ.drew) ⟨rfl, rfl, rfl, Nat.le_refl _, fun _ _ => rfl⟩)).kp (Kp.below bB)).kp (Kp.below bC)
          have sW := (BZ).size
          have Bc : Below w.heap.size w wc := ((BZ).trans ((show Below WZ.heap.size WZ WZ.drew from ⟨rfl, rfl, rfl, Nat.le_refl _, fun _ _ => rfl⟩).mono sW)).trans ((bB.mono sW).trans (bC.mono (by have := bB.size; exact Nat.le_trans sW this)))
          go_wp2_with fail
          go_roundw
          case rel => exact ⟨k + 1, la, rfl, by omega, by omega, by simp, rfl, ⟨⟨_, _, _, _, _, _, _, _, Yc, Sc⟩, Tc, Bc⟩⟩
          case measure => simp [intOf]; omega
      · by_cases k2 : e.kind = 2
        · as_aux_lemma =>
          generalize e.kind = kd at *
          subst k2
          have hle : ¬ ((la : Int) + 1 ≤ la) := by omega
          obtain ⟨gn, cn, hv⟩ := S1.x.form S1.len
          have HV : Hid (s.v = .slice (some ⟨gn, 0, none⟩) 10 cn) := hv
          clear hv
          go_wp2_with fail
          refine (save_ok Y1.X F40_calm.on (la := la) (by have := Y1.kn; omega) rfl Y1.V (by have := Y1.kn; omega)).mono ?_
          rintro e' wS ⟨rfl, RS⟩
          obtain ⟨⟨sv', sI, XS, VS, hm1, hm2, hm3, hm4, hm5⟩, tS⟩ := RS
          have KS : Kp G w' wS := Kp.turns tS (fun x cs ty fz gx hx ht e => by
            rcases e with e | e | e
            · exact gx e
            · exact jty_tb Y1.X.T hx ht e
            · exact jty_sv Y1.V.row hx ht e)
          have BS := B1'.trans (tS.below (fun i r => by
            rcases r with r | r | r
            · exact gB i r
            · omega
            · exact Y1.lv i r) B1'.size)
          have XS' : Tx wS db F40 40 N G jb 2 30 1 0 29 bm 0 [] (fun _ => []) tb wm ns m f sv' ((la + 1 : Nat) : Int) := by
            rw [show ((la + 1 : Nat) : Int) = (la : Int) + 1 by omega]; exact XS
          have lvS : ∀ b, sv'.ownBlock = some b → w.heap.size ≤ b := fun b hb => (hm5 b hb).elim (Y1.lv b) (fun r => Nat.le_trans B1'.size r)
          have xS := S1.x.kp KS
          have nS := S1.n.kp KS
          have TS := T1.kp KS
          have boxS := KS.block _ _ _ _ Y1.gq Y1.box (by decide)
          have hSq : ∀ w'' : World, w''.heap[q]? = some (.cells #[.int .i64 0, s.v, s.u] 54) → (w''.cell? ⟨q, 1, none⟩ = some (.slice (some ⟨gn, 0, none⟩) 10 cn) ∧ w''.cell? ⟨q, 2, none⟩ = some s.u) := fun w'' h => ⟨by simp [World.cell?, h, HV.out], by simp [World.cell?, h]⟩
          have bxD : wS.drew.heap[q]? = some (.cells #[.int .i64 0, s.v, s.u] 54) := boxS
          have xD := xS.kp (Kp.below (w' := wS.drew) ⟨rfl, rfl, rfl, Nat.le_refl _, fun _ _ => rfl⟩)
          have nD := nS.kp (Kp.below (w' := wS.drew) ⟨rfl, rfl, rfl, Nat.le_refl _, fun _ _ => rfl⟩)
          have TD := TS.kp (Kp.below (w' := wS.drew) ⟨rfl, rfl, rfl, Nat.le_refl _, fun _ _ => rfl⟩)
          have XD := XS'.below (w' := wS.drew) ⟨rfl, rfl, rfl, Nat.le_refl _, fun _ _ => rfl⟩
          have VD9 := VS.turns (Below.turns (w := wS) (w' := wS.drew) ⟨rfl, rfl, rfl, Nat.le_refl _, fun _ _ => rfl⟩ (fun _ => False)) (fun _ _ => id) (fun _ _ => ⟨id, id, id, fun _ _ => id⟩)
          have hla9 : Hid (((la : Int) + 1) = ((la + 1 : Nat) : Int)) := (by omega : ((la : Int) + 1) = ((la + 1 : Nat) : Int))
          obtain ⟨i9, hi9, hz9, hy9, hb9⟩ := info_parts Tryz.infoSt
          rw [HV.out] at xD
          have hm10 := outs_few Y1.X.M.ris Y1.mo
          have hsl : ss.length ≤ 100 := by have := Y1.kn; have := Y1.len; omega
          clear XS tS hm5 xS nS TS
          go_wp2_with (go_at_call 15; refine (num7 _ _).mono ?_; rintro e' wn ⟨rfl, hwn⟩; subst wn)
          refine wp_region_held_drew (S := fun w'' => w''.cell? ⟨q, 1, none⟩ = some (.slice (some ⟨gn, 0, none⟩) 10 cn) ∧ w''.cell? ⟨q, 2, none⟩ = some s.u) (by kernel_rfl) (hSq _ bxD) (fun hHeld => ?_)
          refine wpAnyH_take (i := 0) (oi := ⟨some 136, .move (.tmp 13), 55, "free.go:397", #[], none⟩) (v := u13) rfl (by kernel_rfl) (by kernel_rfl) (by kernel_rfl) (fun _ _ _ h => h) (Or.inl ⟨by rfl, fun _ _ => by rfl⟩) hHeld ?_
          simp only [Act.put, List.setIfInBounds_toArray, List.set_cons_zero, List.set_cons_succ]
          refine wpAnyH_take (i := 1) (oi := ⟨some 137, .move (.tmp 19), 3, "free.go:397", #[], none⟩) (v := (.int .i64 ((la : Int) + 1))) rfl (by kernel_rfl) (by kernel_rfl) (by kernel_rfl) (fun _ _ _ h => h) (Or.inl ⟨by rfl, fun _ _ => by rfl⟩) hHeld ?_
          simp only [Act.put, List.setIfInBounds_toArray, List.set_cons_zero, List.set_cons_succ]
          refine wpAnyH_take (i := 2) (oi := ⟨some 138, .fieldAddr 54 (.tmp 12) 1, 0, "free.go:397", #[], none⟩) (v := (.pointer (some ⟨q, 1, none⟩))) rfl (by kernel_rfl) (by kernel_rfl) (by kernel_rfl) (fun _ _ _ h => h) (Or.inl ⟨by rfl, fun _ _ => by rfl⟩) hHeld ?_
          simp only [Act.put, List.setIfInBounds_toArray, List.set_cons_zero, List.set_cons_succ]
          refine wpAnyH_take (i := 3) (oi := ⟨some 139, .load 33 (.tmp 138), 33, "free.go:397", #[⟨2, .data⟩], none⟩) (v := (.slice (some ⟨gn, 0, none⟩) 10 cn)) rfl (by kernel_rfl) (by kernel_rfl) (by kernel_rfl) (fun _ _ _ h => h) (Or.inl ⟨by rfl, fun w' h' => by have e1 := h'.1; unfold execOp; go_simp⟩) hHeld ?_
          simp only [Act.put, List.setIfInBounds_toArray, List.set_cons_zero, List.set_cons_succ]
          refine wpAnyH_take (i := 5) (oi := ⟨some 141, .fieldAddr 54 (.tmp 12) 2, 0, "free.go:397", #[], none⟩) (v := (.pointer (some ⟨q, 2, none⟩))) rfl (by kernel_rfl) (by kernel_rfl) (by kernel_rfl) (fun _ _ _ h => h) (Or.inl ⟨by rfl, fun _ _ => by rfl⟩) hHeld ?_
          simp only [Act.put, List.setIfInBounds_toArray, List.set_cons_zero, List.set_cons_succ]
          refine wpAnyH_take (i := 6) (oi := ⟨some 142, .load 40 (.tmp 141), 40, "free.go:397", #[⟨5, .data⟩], none⟩) (v := s.u) rfl (by kernel_rfl) (by kernel_rfl) (by kernel_rfl) (fun _ _ _ h => h) (Or.inl ⟨by rfl, fun w' h' => by have e1 := h'.2; unfold execOp; go_simp⟩) hHeld ?_
          simp only [Act.put, List.setIfInBounds_toArray, List.set_cons_zero, List.set_cons_succ]
          refine wpAnyH_ready (rs := [4]) (by kernel_rfl) (by simp) ?_
          refine AllReadyH.cons (o := ⟨some 140, .call ⟨.value (.func 25), #[.tmp 139], #[33]⟩, 33, "free.go:397", #[⟨3, .data⟩], none⟩) rfl (fun KK hK => ?_) (AllReadyH.nil)
          go_simp
          refine (copied7 xD (by rw [S1.len]; omega) XD.D.lt).mono ?_
          rintro e' wa ⟨va, rfl, xa, fa9, ba⟩
          obtain ⟨gv, cv, rfl⟩ := xa.form S1.len
          have bxA := (ba.block q (heap_lt bxD)).trans bxD
          refine hK.out _ _ (hSq _ bxA) (fun hHeld => ?_)
          clear hK KK
          try simp only [Act.put, List.setIfInBounds_toArray, List.set_cons_zero, List.set_cons_succ]
          refine wpAnyH_ready (rs := [7]) (by kernel_rfl) (by simp) ?_
          refine AllReadyH.cons (o := ⟨some 143, .call ⟨.value (.func 31), #[.tmp 142], #[40]⟩, 40, "free.go:397", #[⟨6, .data⟩, ⟨4, .chain⟩], none⟩) rfl (fun KK hK => ?_) (AllReadyH.nil)
          go_simp
          refine (ints7 (nD.kp (Kp.below ba)) (by simp; omega) (XD.below ba).D.lt).mono ?_
          rintro e' wb ⟨ub, rfl, nb, fb9, bb⟩
          obtain ⟨au, cu, hu⟩ : ∃ a c, ub = .slice a m.length c := by
            have hL : (m.map (·.1)).length = m.length := List.length_map _
            rcases row_nat nb.row with ⟨h, h0⟩ | ⟨g, c, h, _⟩
            · exact ⟨none, 0, by rw [h, ← hL, h0]⟩
            · exact ⟨_, _, by rw [h, hL]⟩
          subst hu
          have bxB := (bb.block q (heap_lt bxA)).trans bxA
          have bab : Below wS.drew.heap.size wS.drew wb := ba.trans (bb.mono ba.size)
          have rB9 := Kp.row ((KS.trans (Kp.below (w' := wS.drew) ⟨rfl, rfl, rfl, Nat.le_refl _, fun _ _ => rfl⟩)).trans (Kp.below bab)) Y1.row (by decide) Y1.gr
          refine hK.out _ _ (hSq _ bxB) (fun hHeld => ?_)
          clear hK KK
          try simp only [Act.put, List.setIfInBounds_toArray, List.set_cons_zero, List.set_cons_succ]
          refine wpAnyH_ready (rs := [8]) (by kernel_rfl) (by simp) ?_
          refine AllReadyH.cons (o := ⟨some 144, .build 54 #[(0, .tmp 137), (1, .tmp 140), (2, .tmp 143)], 54, "free.go:397", #[⟨1, .data⟩, ⟨4, .data⟩, ⟨7, .data⟩], none⟩) rfl (fun KK hK => ?_) (AllReadyH.nil)
          go_simp
          refine hK.out _ _ (hSq _ bxB) (fun hHeld => ?_)
          clear hK KK
          try simp only [Act.put, List.setIfInBounds_toArray, List.set_cons_zero, List.set_cons_succ]
          refine wpAnyH_ready (rs := [9]) (by kernel_rfl) (by simp) ?_
          refine AllReadyH.cons (o := ⟨some 145, .buildSlice 55 1 #[(0, .tmp 144)], 55, "free.go:397", #[⟨8, .data⟩], none⟩) rfl (fun KK hK => ?_) (AllReadyH.nil)
          go_simp
          refine hK.out _ _ (hSq _ ((Below.heap_alloc wb _ q (heap_lt bxB)).trans bxB)) (fun hHeld => ?_)
          clear hK KK
          try simp only [Act.put, List.setIfInBounds_toArray, List.set_cons_zero, List.set_cons_succ]
          refine wpAnyH_ready (rs := [10]) (by kernel_rfl) (by simp) ?_
          refine AllReadyH.cons (o := ⟨some 146, .call ⟨.builtin .append, #[.tmp 136, .tmp 145], #[55, 55]⟩, 55, "free.go:397", #[⟨0, .data⟩, ⟨9, .data⟩, ⟨7, .chain⟩], none⟩) rfl (fun KK hK => ?_) (AllReadyH.nil)
          refine step_append_lies _ rfl _ _ 55 rfl 0 54 i9 (.agg #[.int .i64 0, .slice none 0 0, .slice none 0 0]) 3 56 Tryz.underlying55 hi9 hz9 hy9 hb9 rfl (by decide) u13 ss.length (stC ss) rfl (rB9.alloc _) ⟨wb.heap.size, 0, none⟩ 1 1 [.int .i64 ((la : Int) + 1), .slice (some ⟨gv, 0, none⟩) 10 cv, .slice au m.length cu] rfl rfl (cell_three9 _ _ _ _ _) (by intro u hu; simp at hu; rcases hu with rfl | rfl | rfl <;> rfl) (by decide) (by unfold maxLen; omega) (by omega) (by omega) _ rfl ?_
          intro g4 c4 w4 ho4 hg4 hat4 hlt4
          rw [hla9.out] at ho4
          obtain ⟨Y4, S4, T4, t4⟩ := Y1.snoc S1 ((KS.trans (Kp.below (w' := wS.drew) ⟨rfl, rfl, rfl, Nat.le_refl _, fun _ _ => rfl⟩)).trans (Kp.below bab)) (XD.below bab) (VD9.turns (Below.turns bab (fun _ => False)) (fun _ _ => id) (fun _ _ => ⟨id, id, id, fun _ _ => id⟩)) hm1 hm2 hm3 hm4 lvS (xa.kp (Kp.below bb)) nb (fun b hb => Nat.le_trans KS.size (fa9 b hb)) ho4 hg4 hat4 B1'.size (TD.kp (Kp.below bab))
          refine hK.out _ _ (hSq _ Y4.box) (fun hHeld => ?_)
          clear hK KK
          try simp only [Act.put, List.setIfInBounds_toArray, List.set_cons_zero, List.set_cons_succ]
          refine wpAnyH_ready (rs := [11]) (by kernel_rfl) (by simp) ?_
          refine AllReadyH.cons (o := ⟨some 13, .assign (.tmp 146), 55, "free.go:397", #[⟨10, .data⟩, ⟨10, .chain⟩, ⟨0, .phase⟩, ⟨1, .phase⟩, ⟨2, .phase⟩, ⟨3, .phase⟩, ⟨4, .phase⟩, ⟨5, .phase⟩, ⟨6, .phase⟩, ⟨7, .phase⟩, ⟨8, .phase⟩, ⟨9, .phase⟩, ⟨10, .phase⟩], none⟩) rfl (fun KK hK => ?_) (AllReadyH.nil)
          go_simp
          refine hK.out _ _ (hSq _ Y4.box) (fun hHeld => ?_)
          clear hK KK
          try simp only [Act.put, List.setIfInBounds_toArray, List.set_cons_zero, List.set_cons_succ]
          refine wpAnyH_done (by kernel_rfl) ?_ _
          have B4 : Below w.heap.size w w4 := ((BS.trans ((show Below wS.heap.size wS wS.drew from ⟨rfl, rfl, rfl, Nat.le_refl _, fun _ _ => rfl⟩).mono BS.size)).trans (bab.mono BS.size)).trans (t4.below (fun i r => Y1.lr i r) (Nat.le_trans BS.size bab.size))
          clear Y1 S1 T1 xD nD TD XD VD9 VS XS' KS ba bb bab rB9 xa nb ho4 hg4 hat4 t4 bxD bxA bxB boxS hSq x0 x1 x3
          have dY := Y4.below (w' := w4.drew) ⟨rfl, rfl, rfl, Nat.le_refl _, fun _ _ => rfl⟩
          have dS := S4.kp (Kp.below (G := G) (w := w4) (w' := w4.drew) ⟨rfl, rfl, rfl, Nat.le_refl _, fun _ _ => rfl⟩)
          have c2 : w4.drew.cell? ⟨q, 2, none⟩ = some s.u := show w4.cell? ⟨q, 2, none⟩ = some s.u by simp [World.cell?, Y4.box]
          have hml := outs_few Y4.X.M.ris Y4.mo
          go_wp2_with (go_at_call 15; refine (num7 _ _).mono ?_; rintro e' wn ⟨rfl, hwn⟩; subst wn)
          go_region_held3 (fun w' => w'.cell? ⟨q, 2, none⟩ = some s.u)
            (first | exact c2 | exact c2b | exact c2c)
            (first
              | (go_at_call 16; refine (blocks_ok dY.X.T dY.X.M (by omega)).mono ?_; rintro e' wb ⟨gB, cB, rfl, rB, bB⟩; have Yb := dY.below bB; have Sb := dS.kp (Kp.below bB); have c2b : wb.cell? ⟨q, 2, none⟩ = some s.u := by { simp [World.cell?, Yb.box] })
              | (go_at_call 35; refine (sameInts7 (G := fun _ => False) (H := G) (l := m.map (·.1)) ⟨by { rw [List.length_map, List.map_map]; exact own_zero rB }, fun _ _ => id⟩ Sb.n (by simp; omega)).mono ?_; rintro e' wc ⟨rfl, bC⟩; have Yc := Yb.below bC; have Sc := Sb.kp (Kp.below bC); have c2c : wc.cell? ⟨q, 2, none⟩ = some s.u := by { simp [World.cell?, Yc.box] }))
          all_goals
            have Tc := ((T4.kp (Kp.below (w' := w4.drew) ⟨rfl, rfl, rfl, Nat.le_refl _, fun _ _ => rfl⟩)).kp (Kp.below bB)).kp (Kp.below bC)
            have sW := (B4).size
            have Bc : Below w.heap.size w wc := ((B4).trans ((show Below w4.heap.size w4 w4.drew from ⟨rfl, rfl, rfl, Nat.le_refl _, fun _ _ => rfl⟩).mono sW)).trans ((bB.mono sW).trans (bC.mono (by have := bB.size; exact Nat.le_trans sW this)))
            go_wp2_with fail
            go_roundw
            case rel => exact ⟨k + 1, (la + 1), rfl, by omega, by omega, by simp, rfl, ⟨⟨_, _, _, _, _, _, _, _, Yc, Sc⟩, Tc, Bc⟩⟩
            case measure => simp [intOf]; omega
        · by_cases k3 : e.kind = 3
          · as_aux_lemma =>
            obtain ⟨a3, c3, rfl⟩ : ∃ a c, u13 = .slice a ss.length c := by
              rcases Y1.row.2 with ⟨h, h0⟩ | ⟨g, cap, cur, h, _⟩
              · exact ⟨none, 0, by rw [h, h0]⟩
              · exact ⟨_, _, h⟩
            by_cases h0 : ss.length = 0
            · have e0 : ss = [] := List.eq_nil_of_length_eq_zero h0
              subst e0
              have el : l = [] := List.eq_nil_of_length_eq_zero Y1.len.symm
              subst el
              generalize e.kind = kd at *
              subst k3
              go_wp2_with fail
              refine (back_no Y1.X F40_calm.on Y1.V (by simp) e.kk (fun s hs => by cases hs)).mono ?_
              rintro e' w2 ⟨rfl, q2⟩
              have Y2 := Y1.same q2
              have S2 := S1.kp (Kp.same q2.2)
              have T2' := T1.kp (Kp.same q2.2)
              have B2' := B1'.trans (q2.2.below gB B1'.size)
              clear Y1 S1 T1 q2 x0 x1 x3
              go_wp2_with (go_at_call 15; refine (num7 _ _).mono ?_; rintro e' wn ⟨rfl, hwn⟩; subst wn)
              go_roundw
              case rel => exact ⟨k + 1, la, rfl, by omega, by omega, by simp, rfl, ⟨⟨_, _, _, _, _, _, _, _, Y2.more, S2⟩, T2', B2'⟩⟩
              case measure => simp [intOf]; omega
            · have hL0 : 0 < ss.length := by omega
              obtain ⟨gs, rfl⟩ : ∃ g, a3 = some ⟨g, 0, none⟩ := by
                rcases Y1.row.2 with ⟨_, h1⟩ | ⟨g, cap, cur, h, _⟩
                · exact absurd h1 h0
                · cases h; exact ⟨_, rfl⟩
              have hsl : ss.length ≤ 100 := by have := Y1.kn; have := Y1.len; omega
              have hlk : la ≤ k := by have := Y1.kn; omega
              have HLL : Hid (ss.length = l.length) := Y1.len
              obtain ⟨L, hLe⟩ : ∃ L, ss.length = L := ⟨_, rfl⟩
              have HLe : Hid (ss.length = L) := hLe
              have hLi0 : (0 : Int) < L := by omega
              have hLi1 : (L : Int) ≤ 100 := by omega
              have t1 : e.kk.tmod (L : Int) < L := Int.tmod_lt_of_pos _ hLi0
              have t2 : -(L : Int) < e.kk.tmod (L : Int) := Int.lt_tmod_of_pos _ hLi0
              have p1 : 0 ≤ (e.kk.tmod (L : Int) + L) % (L : Int) := Int.emod_nonneg _ (by omega)
              have p2 : (e.kk.tmod (L : Int) + L) % (L : Int) < L := Int.emod_lt_of_pos _ hLi0
              obtain ⟨j3, h6⟩ : ∃ j3 : Nat, (e.kk.tmod (L : Int) + L) % (L : Int) = (j3 : Int) := ⟨_, (Int.toNat_of_nonneg p1).symm⟩
              have h5 : (e.kk.tmod (L : Int) + L).tmod (L : Int) = (j3 : Int) := by rw [Int.tmod_eq_emod_of_nonneg (by omega)]; exact h6
              have hj3i : (j3 : Int) < L := by omega
              have hj3 : j3 < L := by omega
              clear p1 p2
              have hjs : j3 < ss.length := by rw [hLe]; exact hj3
              have hjl : j3 < l.length := by rw [← HLL.out]; exact hjs
              obtain ⟨t, ht⟩ : ∃ t, ss[j3]? = some t := ⟨_, List.getElem?_eq_getElem hjs⟩
              obtain ⟨eI, hE9⟩ : ∃ eI, l[j3] = eI := ⟨_, rfl⟩
              have HE9 : Hid (l[j3] = eI) := hE9
              have hI : l[j3]? = some eI := by rw [List.getElem?_eq_getElem hjl, hE9]
              obtain ⟨a1, a2, a3', a4⟩ := Y1.all j3 t eI ht hI
              have HA : Hid (t.mark = eI.mark ∧ StOk w' G t eI.m eI.f ∧ (∀ p ∈ eI.m, p.1 ∈ outs 40) ∧ eI.hn ≤ k) := ⟨a1, a2, a3', a4⟩
              have hSt : ∀ w'' : World, w''.ownsRow 0 54 3 (.slice (some ⟨gs, 0, none⟩) ss.length c3) ss.length (stC ss) → (w''.cell? ⟨gs, j3 * 3, none⟩ = some (.int .i64 (eI.mark : Nat)) ∧ w''.cell? ⟨gs, j3 * 3 + 1, none⟩ = some t.v ∧ w''.cell? ⟨gs, j3 * 3 + 2, none⟩ = some t.u) := fun w'' r => by
                obtain ⟨s1, s2, s3⟩ := stC_at ss j3 t ht
                exact ⟨by rw [r.cellAt _ (by omega), s1, a1], by rw [r.cellAt _ (by omega), s2], by rw [r.cellAt _ (by omega), s3]⟩
              obtain ⟨z1, z2, z3⟩ := hSt _ Y1.row
              have HS3 : Hid (∀ w'' : World, w''.ownsRow 0 54 3 (.slice (some ⟨gs, 0, none⟩) ss.length c3) ss.length (stC ss) → (w''.cell? ⟨gs, j3 * 3, none⟩ = some (.int .i64 (eI.mark : Nat)) ∧ w''.cell? ⟨gs, j3 * 3 + 1, none⟩ = some t.v ∧ w''.cell? ⟨gs, j3 * 3 + 2, none⟩ = some t.u)) := hSt
              clear hSt a1 a2 a3' a4
              have HY1 : Hid (SvY w.heap.size w' G jb bm tb db q N k (.slice (some ⟨gw, 0, none⟩) 10 cw) (.slice (some ⟨gs, 0, none⟩) ss.length c3) la wm ns m f sv l s ss) := Y1
              rw [hLe]
              clear hLe h0 hE9
              clear Y1
              generalize e.kind = kd at *
              subst k3
              go_wp2_with fail
              refine (show Calls Tryz.prog 32 #[.pointer (some ⟨tb, 0, none⟩), .int .i64 (eI.mark : Nat)] w' fun e' w2 => e' = .returned (.int .i64 0) ∧ BackR w' w2 db F40 40 N G jb 2 30 1 0 29 bm 0 [] (fun _ => []) tb eI (la : Int) sv l la j3 from by { have hB9 := back_ok HY1.out.X F40_calm.on HY1.out.V (by have := HLL.out; omega) j3 hjl; rw [HE9.out] at hB9; exact hB9 }).mono ?_
              rintro e' w2 ⟨rfl, RB⟩
              obtain ⟨⟨wm', sv', X2, V2, lwm, ob⟩, tB⟩ := RB
              have K2 : Kp G w' w2 := Kp.turns tB (fun x cs ty fz gx hx ht e => by
                rcases e with e | e | e
                · exact gx e
                · exact jty_tb HY1.out.X.T hx ht e
                · exact jty_sv HY1.out.V.row hx ht e)
              have B2' := B1'.trans (tB.below (fun i r => by
                rcases r with r | r | r
                · exact gB i r
                · omega
                · exact HY1.out.lv i r) B1'.size)
              clear tB z1 z2 z3
              have hla1 : (la : Int) ≤ 100 := by omega
              go_wp2_with fail
              refine (back_no X2 F40_calm.on V2 (by rw [List.length_take]; omega) ((la : Int) + 1) (fun s hs => by have := V2.top s hs; omega)).mono ?_
              rintro e' w3 ⟨rfl, q3⟩
              have X3 := X2.same q3
              have V3 := V2.same q3.2
              have K3 := K2.trans (Kp.same q3.2)
              have B3' := B2'.trans (q3.2.below gB B2'.size)
              have R3 := Kp.row (K3.trans (Kp.below (w' := w3.drew) ⟨rfl, rfl, rfl, Nat.le_refl _, fun _ _ => rfl⟩)) HY1.out.row (by decide) HY1.out.gr
              have A3 := HA.out.2.1.kp (K3.trans (Kp.below (w' := w3.drew) ⟨rfl, rfl, rfl, Nat.le_refl _, fun _ _ => rfl⟩))
              obtain ⟨z1, z2, z3⟩ := HS3.out _ R3
              have T3 := T1.kp K3
              have HWV : Hid (∀ b, (Value.slice (some ⟨gw, 0, none⟩) 10 cw).ownBlock = some b → b < w'.heap.size) := fun b hb => (T1.x.row.lt b hb).2
              have hcap : L ≤ c3 := by
                rcases HY1.out.row.2 with ⟨h, _⟩ | ⟨g, cap, cur, h, _, _, h2, _⟩
                · cases h
                · cases h; rw [← HLe.out]; exact h2
              have box3 : w3.drew.heap[q]? = some (.cells #[.int .i64 0, s.v, s.u] 54) := K3.block _ _ _ _ HY1.out.gq HY1.out.box (by decide)
              have hm10 : eI.m.length ≤ 10 := outs_few X3.M.ris HA.out.2.2.1
              clear q3 X2 V2 K2 B2' T1 S1 x0 x1 x3 Q1
              go_wp2_with (go_at_call 15; refine (num7 _ _).mono ?_; rintro e' wn ⟨rfl, hwn⟩; subst wn)
              refine wp_region_held_drew (S := fun w'' => w''.cell? ⟨gs, j3 * 3 + 1, none⟩ = some t.v ∧ w''.cell? ⟨gs, j3 * 3 + 2, none⟩ = some t.u) (by kernel_rfl) ⟨z2, z3⟩ (fun hHeld => ?_)
              refine wpAnyH_take (i := 0) (oi := ⟨some 189, .move (.tmp 13), 55, "free.go:412", #[], none⟩) (v := (.slice (some ⟨gs, 0, none⟩) L c3)) rfl (by kernel_rfl) (by kernel_rfl) (by kernel_rfl) (fun _ _ _ h => h) (Or.inl ⟨by rfl, fun _ _ => by rfl⟩) hHeld ?_
              simp only [Act.put, List.setIfInBounds_toArray, List.set_cons_zero, List.set_cons_succ]
              refine wpAnyH_take (i := 1) (oi := ⟨some 190, .move (.tmp 22), 3, "free.go:412", #[], none⟩) (v := (.int .i64 (j3 : Nat))) rfl (by kernel_rfl) (by kernel_rfl) (by kernel_rfl) (fun _ _ _ h => h) (Or.inl ⟨by rfl, fun _ _ => by rfl⟩) hHeld ?_
              simp only [Act.put, List.setIfInBounds_toArray, List.set_cons_zero, List.set_cons_succ]
              refine wpAnyH_take (i := 2) (oi := ⟨some 191, .indexAddr 55 (.tmp 189) (.tmp 190), 0, "free.go:412", #[⟨0, .data⟩, ⟨1, .data⟩], none⟩) (v := (.pointer (some ⟨gs, j3 * 3, none⟩))) rfl (by kernel_rfl) (by kernel_rfl) (by kernel_rfl) (fun _ _ _ h => h) (Or.inl ⟨by rfl, fun w' h' => by unfold execOp; go_simp⟩) hHeld ?_
              simp only [Act.put, List.setIfInBounds_toArray, List.set_cons_zero, List.set_cons_succ]
              refine wpAnyH_take (i := 3) (oi := ⟨some 192, .fieldAddr 54 (.tmp 191) 1, 0, "free.go:412", #[⟨2, .data⟩], none⟩) (v := (.pointer (some ⟨gs, j3 * 3 + 1, none⟩))) rfl (by kernel_rfl) (by kernel_rfl) (by kernel_rfl) (fun _ _ _ h => h) (Or.inl ⟨by rfl, fun _ _ => by rfl⟩) hHeld ?_
              simp only [Act.put, List.setIfInBounds_toArray, List.set_cons_zero, List.set_cons_succ]
              refine wpAnyH_take (i := 4) (oi := ⟨some 193, .load 33 (.tmp 192), 33, "free.go:412", #[⟨3, .data⟩], none⟩) (v := t.v) rfl (by kernel_rfl) (by kernel_rfl) (by kernel_rfl) (fun _ _ _ h => h) (Or.inl ⟨by rfl, fun w' h' => by have e1 := h'.1; unfold execOp; go_simp⟩) hHeld ?_
              simp only [Act.put, List.setIfInBounds_toArray, List.set_cons_zero, List.set_cons_succ]
              refine wpAnyH_take (i := 6) (oi := ⟨some 195, .move (.tmp 13), 55, "free.go:412", #[], none⟩) (v := (.slice (some ⟨gs, 0, none⟩) L c3)) rfl (by kernel_rfl) (by kernel_rfl) (by kernel_rfl) (fun _ _ _ h => h) (Or.inl ⟨by rfl, fun _ _ => by rfl⟩) hHeld ?_
              simp only [Act.put, List.setIfInBounds_toArray, List.set_cons_zero, List.set_cons_succ]
              refine wpAnyH_take (i := 7) (oi := ⟨some 196, .move (.tmp 22), 3, "free.go:412", #[], none⟩) (v := (.int .i64 (j3 : Nat))) rfl (by kernel_rfl) (by kernel_rfl) (by kernel_rfl) (fun _ _ _ h => h) (Or.inl ⟨by rfl, fun _ _ => by rfl⟩) hHeld ?_
              simp only [Act.put, List.setIfInBounds_toArray, List.set_cons_zero, List.set_cons_succ]
              refine wpAnyH_take (i := 8) (oi := ⟨some 197, .indexAddr 55 (.tmp 195) (.tmp 196), 0, "free.go:412", #[⟨6, .data⟩, ⟨7, .data⟩], none⟩) (v := (.pointer (some ⟨gs, j3 * 3, none⟩))) rfl (by kernel_rfl) (by kernel_rfl) (by kernel_rfl) (fun _ _ _ h => h) (Or.inl ⟨by rfl, fun w' h' => by unfold execOp; go_simp⟩) hHeld ?_
              simp only [Act.put, List.setIfInBounds_toArray, List.set_cons_zero, List.set_cons_succ]
              refine wpAnyH_take (i := 9) (oi := ⟨some 198, .fieldAddr 54 (.tmp 197) 2, 0, "free.go:412", #[⟨8, .data⟩], none⟩) (v := (.pointer (some ⟨gs, j3 * 3 + 2, none⟩))) rfl (by kernel_rfl) (by kernel_rfl) (by kernel_rfl) (fun _ _ _ h => h) (Or.inl ⟨by rfl, fun _ _ => by rfl⟩) hHeld ?_
              simp only [Act.put, List.setIfInBounds_toArray, List.set_cons_zero, List.set_cons_succ]
              refine wpAnyH_take (i := 10) (oi := ⟨some 199, .load 40 (.tmp 198), 40, "free.go:412", #[⟨9, .data⟩], none⟩) (v := t.u) rfl (by kernel_rfl) (by kernel_rfl) (by kernel_rfl) (fun _ _ _ h => h) (Or.inl ⟨by rfl, fun w' h' => by have e1 := h'.2; unfold execOp; go_simp⟩) hHeld ?_
              simp only [Act.put, List.setIfInBounds_toArray, List.set_cons_zero, List.set_cons_succ]
              refine wpAnyH_ready (rs := [5]) (by kernel_rfl) (by simp) ?_
              refine AllReadyH.cons (o := ⟨some 194, .call ⟨.value (.func 25), #[.tmp 193], #[33]⟩, 33, "free.go:412", #[⟨4, .data⟩], none⟩) rfl (fun KK hK => ?_) (AllReadyH.nil)
              go_simp
              refine (copied7 A3.x (by rw [A3.len]; omega) X3.D.lt).mono ?_
              rintro e' wa ⟨va, rfl, xa, fa9, ba⟩
              obtain ⟨gv, cv, rfl⟩ := xa.form A3.len
              have ra := Kp.row (Kp.below (G := G) ba) R3 (by decide) HY1.out.gr
              have kA := (HS3.out _ ra).2
              refine hK.out _ _ kA (fun hHeld => ?_)
              clear hK KK
              try simp only [Act.put, List.setIfInBounds_toArray, List.set_cons_zero, List.set_cons_succ]
              refine wpAnyH_ready (rs := [11]) (by kernel_rfl) (by simp) ?_
              refine AllReadyH.cons (o := ⟨some 200, .call ⟨.value (.func 31), #[.tmp 199], #[40]⟩, 40, "free.go:412", #[⟨10, .data⟩, ⟨5, .chain⟩], none⟩) rfl (fun KK hK => ?_) (AllReadyH.nil)
              go_simp
              refine (ints7 (A3.n.kp (Kp.below ba)) (by rw [List.length_map]; omega) (X3.below (Below.fromDrew ba)).D.lt).mono ?_
              rintro e' wb ⟨ub, rfl, nb, fb9, bb⟩
              obtain ⟨au, cu, hu⟩ : ∃ a c, ub = .slice a eI.m.length c := by
                have hL9 : (eI.m.map (·.1)).length = eI.m.length := List.length_map _
                rcases row_nat nb.row with ⟨h, h0⟩ | ⟨g, c, h, _⟩
                · exact ⟨none, 0, by rw [h, ← hL9, h0]⟩
                · exact ⟨_, _, by rw [h, hL9]⟩
              subst hu
              have rb := Kp.row (Kp.below (G := G) bb) ra (by decide) HY1.out.gr
              have kB := (HS3.out _ rb).2
              have bab : Below w3.drew.heap.size w3.drew wb := ba.trans (bb.mono ba.size)
              have boxB : wb.heap[q]? = some (.cells #[.int .i64 0, s.v, s.u] 54) := (bab.block q (heap_lt box3)).trans box3
              have zq0 : wb.cell? ⟨q, 0, none⟩ = some (.int .i64 0) := by simp [World.cell?, boxB]
              have zq1 : wb.cell? ⟨q, 1, none⟩ = some s.v := by simp [World.cell?, boxB]
              have zq2 : wb.cell? ⟨q, 2, none⟩ = some s.u := by simp [World.cell?, boxB]
              have zf0 : wb.frozen? ⟨q, 0, none⟩ = false := by simp [World.frozen?, boxB]
              have zf1 : wb.frozen? ⟨q, 1, none⟩ = false := by simp [World.frozen?, boxB]
              have zf2 : wb.frozen? ⟨q, 2, none⟩ = false := by simp [World.frozen?, boxB]
              refine hK.out _ _ kB (fun hHeld => ?_)
              clear hK KK
              try simp only [Act.put, List.setIfInBounds_toArray, List.set_cons_zero, List.set_cons_succ]
              refine wpAnyH_ready (rs := [12]) (by kernel_rfl) (by simp) ?_
              refine AllReadyH.cons (o := ⟨some 201, .build 54 #[(1, .tmp 194), (2, .tmp 200)], 54, "free.go:412", #[⟨5, .data⟩, ⟨11, .data⟩], none⟩) rfl (fun KK hK => ?_) (AllReadyH.nil)
              go_simp
              refine hK.out _ _ kB (fun hHeld => ?_)
              clear hK KK
              try simp only [Act.put, List.setIfInBounds_toArray, List.set_cons_zero, List.set_cons_succ]
              refine wpAnyH_ready (rs := [13]) (by kernel_rfl) (by simp) ?_
              refine AllReadyH.cons (o := ⟨none, .store 54 (.tmp 12) (.tmp 201), 0, "free.go:412", #[⟨12, .data⟩, ⟨11, .chain⟩, ⟨0, .phase⟩, ⟨1, .phase⟩, ⟨2, .phase⟩, ⟨3, .phase⟩, ⟨4, .phase⟩, ⟨5, .phase⟩, ⟨6, .phase⟩, ⟨7, .phase⟩, ⟨8, .phase⟩, ⟨9, .phase⟩, ⟨10, .phase⟩, ⟨11, .phase⟩, ⟨12, .phase⟩], none⟩) rfl (fun KK hK => ?_) (AllReadyH.nil)
              go_simp
              have u4 : Turns (fun i => i = q) wb (((wb.setCell ⟨q, 0, none⟩ (.int .i64 0)).setCell ⟨q, 1, none⟩ (.slice (some ⟨gv, 0, none⟩) 10 cv)).setCell ⟨q, 2, none⟩ (.slice au eI.m.length cu)) := ((Turns.cell wb q 0 _).trans (Turns.cell _ q 1 _) (fun _ _ r => r)).trans (Turns.cell _ q 2 _) (fun _ _ r => r)
              have bx4 : (((wb.setCell ⟨q, 0, none⟩ (.int .i64 0)).setCell ⟨q, 1, none⟩ (.slice (some ⟨gv, 0, none⟩) 10 cv)).setCell ⟨q, 2, none⟩ (.slice au eI.m.length cu)).heap[q]? = some (.cells #[.int .i64 0, (.slice (some ⟨gv, 0, none⟩) 10 cv), (.slice au eI.m.length cu)] 54) := heap_setCell_same _ q 2 _ _ _ (heap_setCell_same _ q 1 _ _ _ (heap_setCell_same _ q 0 _ _ _ boxB))
              have kC := (HS3.out _ (own_turns rb u4 (fun b hb r => HY1.out.qs (by rw [← r]; exact hb)))).2
              refine hK.out _ _ kC (fun hHeld => ?_)
              clear hK KK
              try simp only [Act.put, List.setIfInBounds_toArray, List.set_cons_zero, List.set_cons_succ]
              refine wpAnyH_done (by kernel_rfl) ?_ _
              have kD := (K3.trans (Kp.below (w' := w3.drew) ⟨rfl, rfl, rfl, Nat.le_refl _, fun _ _ => rfl⟩)).trans (Kp.below (G := G) bab)
              have XD := (X3.below (w' := w3.drew) ⟨rfl, rfl, rfl, Nat.le_refl _, fun _ _ => rfl⟩).below bab
              have VD9 := (V3.turns (Below.turns (w := w3) (w' := w3.drew) ⟨rfl, rfl, rfl, Nat.le_refl _, fun _ _ => rfl⟩ (fun _ => False)) (fun _ _ => id) (fun _ _ => ⟨id, id, id, fun _ _ => id⟩)).turns (Below.turns bab (fun _ => False)) (fun _ _ => id) (fun _ _ => ⟨id, id, id, fun _ _ => id⟩)
              have TD9 := (T3.kp (Kp.below (w' := w3.drew) ⟨rfl, rfl, rfl, Nat.le_refl _, fun _ _ => rfl⟩)).kp (Kp.below bab)
              obtain ⟨Y4, S4, T4⟩ := HY1.out.cut kD hI ht XD VD9 lwm ob B1'.size (xa.kp (Kp.below bb)) nb (fun b hb => Nat.le_trans K3.size (fa9 b hb)) TD9 HWV.out u4 bx4
              have B4 : Below w.heap.size w (((wb.setCell ⟨q, 0, none⟩ (.int .i64 0)).setCell ⟨q, 1, none⟩ (.slice (some ⟨gv, 0, none⟩) 10 cv)).setCell ⟨q, 2, none⟩ (.slice au eI.m.length cu)) := ((B3'.trans ((show Below w3.heap.size w3 w3.drew from ⟨rfl, rfl, rfl, Nat.le_refl _, fun _ _ => rfl⟩).mono B3'.size)).trans (bab.mono B3'.size)).trans (u4.below (fun i r => by omega) (Nat.le_trans B3'.size bab.size))
              have hcpi : ((j3 : Int) + 1) ≤ c3 := by omega
              obtain ⟨W4, hW4⟩ : ∃ W, (((wb.setCell ⟨q, 0, none⟩ (.int .i64 0)).setCell ⟨q, 1, none⟩ (.slice (some ⟨gv, 0, none⟩) 10 cv)).setCell ⟨q, 2, none⟩ (.slice au eI.m.length cu)) = W := ⟨_, rfl⟩
              rw [hW4] at Y4 S4 T4 B4 ⊢
              clear kD XD VD9 TD9 hW4 u4 bx4 kC kB kA rb ra boxB zq0 zq1 zq2 zf0 zf1 zf2 bab ba bb xa nb fa9 fb9 X3 V3 K3 B3' R3 A3 T3 box3 z1 z2 z3 B1' HS3 HA HY1
              have dY := Y4.below (w' := W4.drew) ⟨rfl, rfl, rfl, Nat.le_refl _, fun _ _ => rfl⟩
              have dS := S4.kp (Kp.below (G := G) (w := W4) (w' := W4.drew) ⟨rfl, rfl, rfl, Nat.le_refl _, fun _ _ => rfl⟩)
              have c2 : W4.drew.cell? ⟨q, 2, none⟩ = some (.slice au eI.m.length cu) := show W4.cell? ⟨q, 2, none⟩ = some (.slice au eI.m.length cu) by simp [World.cell?, Y4.box]
              have hml := outs_few Y4.X.M.ris Y4.mo
              go_wp2_with (go_at_call 15; refine (num7 _ _).mono ?_; rintro e' wn ⟨rfl, hwn⟩; subst wn)
              go_region_held3 (fun w' => w'.cell? ⟨q, 2, none⟩ = some (.slice au eI.m.length cu))
                (first | exact c2 | exact c2b | exact c2c)
                (first
                  | (go_at_call 16; refine (blocks_ok dY.X.T dY.X.M (by omega)).mono ?_; rintro e' wb ⟨gB, cB, rfl, rB, bB⟩; have Yb := dY.below bB; have Sb := dS.kp (Kp.below bB); have c2b : wb.cell? ⟨q, 2, none⟩ = some (.slice au eI.m.length cu) := by { simp [World.cell?, Yb.box] })
                  | (go_at_call 35; refine (sameInts7 (G := fun _ => False) (H := G) (l := eI.m.map (·.1)) ⟨by { rw [List.length_map, List.map_map]; exact own_zero rB }, fun _ _ => id⟩ Sb.n (by simp; omega)).mono ?_; rintro e' wc ⟨rfl, bC⟩; have Yc := Yb.below bC; have Sc := Sb.kp (Kp.below bC); have c2c : wc.cell? ⟨q, 2, none⟩ = some (.slice au eI.m.length cu) := by { simp [World.cell?, Yc.box] }))
              all_goals
                have Tc := ((T4.kp (Kp.below (w' := W4.drew) ⟨rfl, rfl, rfl, Nat.le_refl _, fun _ _ => rfl⟩)).kp (Kp.below bB)).kp (Kp.below bC)
                have sW := (B4).size
                have Bc : Below w.heap.size w wc := ((B4).trans ((show Below W4.heap.size W4 W4.drew from ⟨rfl, rfl, rfl, Nat.le_refl _, fun _ _ => rfl⟩).mono sW)).trans ((bB.mono sW).trans (bC.mono (by have := bB.size; exact Nat.le_trans sW this)))
                go_wp2_with fail
                go_roundw
                case rel => exact ⟨k + 1, la, rfl, by omega, by omega, by simp, rfl, ⟨⟨_, _, _, _, _, _, _, _, Yc, Sc⟩, Tc, Bc⟩⟩
                case measure => simp [intOf]; omega
          · by_cases k4 : e.kind = 4
            · as_aux_lemma =>
              obtain ⟨gn, cn, hv⟩ := S1.x.form S1.len
              obtain ⟨o, hoj⟩ : ∃ o, (outs 40)[j]? = some o := ⟨_, List.getElem?_eq_getElem (by rw [outs_len]; exact hj)⟩
              obtain ⟨x, hxj⟩ : ∃ x, s.xs[j]? = some x := ⟨_, List.getElem?_eq_getElem (by rw [S1.len]; exact hj)⟩
              obtain ⟨x9, hx9⟩ : ∃ x, xs[j]? = some x := ⟨_, List.getElem?_eq_getElem (by rw [hxl]; exact hj)⟩
              obtain ⟨y3, _, yk, _⟩ := T1.cells hxl hj hoj hx9
              have HX : Hid (x.bs = seesF F40 m f [] (fun _ => []) o) := S1.see j o x hoj hxj
              have HO : Hid (o < 40 ∧ (o < 2 ∨ 2 + 30 ≤ o)) := outs_in (List.mem_of_getElem? hoj)
              have hlen := (S1.x.it x (List.mem_of_getElem? hxj)).len
              have HV : Hid (s.v = .slice (some ⟨gn, 0, none⟩) 10 cn) := hv
              clear hv
              generalize e.kind = kd at *
              go_wp2_with fail
              refine (Tx.read Y1.X F40_calm.on (by omega) o HO.out.1 HO.out.2 (by rw [← HX.out]; exact hlen)).mono ?_
              rintro e' w2 ⟨g2, rfl, lg2, h2, X2, t2⟩
              have Y2 := Y1.same ⟨X2.D, t2⟩
              have S2 := S1.kp (Kp.same t2)
              have T2' := T1.kp (Kp.same t2)
              have B2' := B1'.trans (t2.below gB B1'.size)
              rw [← HX.out] at h2
              have c1 : w2.cell? ⟨q, 1, none⟩ = some (.slice (some ⟨gn, 0, none⟩) 10 cn) := by simp [World.cell?, Y2.box, HV.out]
              have cx := S2.at HV.out hj hxj
              have Lx : Lies w2 (some ⟨x.g, 0, none⟩) 512 x.cap x.bs := (S2.x.it x (List.mem_of_getElem? hxj)).lies
              clear Y1 S1 T1 X2 t2 y3 yk x0 x1 x3
              go_wp2_with fail
              refine (same7 (some ⟨g2, 0, none⟩) (some ⟨x.g, 0, none⟩) 512 x.cap x.bs w2 (Lies.full h2 hlen) Lx).mono ?_
              rintro e' w3 ⟨rfl, b3⟩
              have Y3 := Y2.below b3
              have S3 := S2.kp (Kp.below b3)
              have T3' := T2'.kp (Kp.below b3)
              have B3' := B2'.trans (b3.mono B2'.size)
              clear Y2 S2 T2' b3 h2 Lx c1 cx
              have dY := Y3.below (w' := w3.drew) ⟨rfl, rfl, rfl, Nat.le_refl _, fun _ _ => rfl⟩
              have dS := S3.kp (Kp.below (G := G) (w := w3) (w' := w3.drew) ⟨rfl, rfl, rfl, Nat.le_refl _, fun _ _ => rfl⟩)
              have c2 : w3.drew.cell? ⟨q, 2, none⟩ = some s.u := show w3.cell? ⟨q, 2, none⟩ = some s.u by simp [World.cell?, Y3.box]
              have hml := outs_few Y3.X.M.ris Y3.mo
              go_wp2_with (go_at_call 15; refine (num7 _ _).mono ?_; rintro e' wn ⟨rfl, hwn⟩; subst wn)
              go_region_held3 (fun w' => w'.cell? ⟨q, 2, none⟩ = some s.u)
                (first | exact c2 | exact c2b | exact c2c)
                (first
                  | (go_at_call 16; refine (blocks_ok dY.X.T dY.X.M (by omega)).mono ?_; rintro e' wb ⟨gB, cB, rfl, rB, bB⟩; have Yb := dY.below bB; have Sb := dS.kp (Kp.below bB); have c2b : wb.cell? ⟨q, 2, none⟩ = some s.u := by { simp [World.cell?, Yb.box] })
                  | (go_at_call 35; refine (sameInts7 (G := fun _ => False) (H := G) (l := m.map (·.1)) ⟨by { rw [List.length_map, List.map_map]; exact own_zero rB }, fun _ _ => id⟩ Sb.n (by simp; omega)).mono ?_; rintro e' wc ⟨rfl, bC⟩; have Yc := Yb.below bC; have Sc := Sb.kp (Kp.below bC); have c2c : wc.cell? ⟨q, 2, none⟩ = some s.u := by { simp [World.cell?, Yc.box] }))
              all_goals
                have Tc := ((T3'.kp (Kp.below (w' := w3.drew) ⟨rfl, rfl, rfl, Nat.le_refl _, fun _ _ => rfl⟩)).kp (Kp.below bB)).kp (Kp.below bC)
                have sW := (B3').size
                have Bc : Below w.heap.size w wc := ((B3').trans ((show Below w3.heap.size w3 w3.drew from ⟨rfl, rfl, rfl, Nat.le_refl _, fun _ _ => rfl⟩).mono sW)).trans ((bB.mono sW).trans (bC.mono (by have := bB.size; exact Nat.le_trans sW this)))
                go_wp2_with fail
                go_roundw
                case rel => exact ⟨k + 1, la, rfl, by omega, by omega, by simp, rfl, ⟨⟨_, _, _, _, _, _, _, _, Yc.more, Sc⟩, Tc, Bc⟩⟩
                case measure => simp [intOf]; omega
            · as_aux_lemma =>
              generalize e.kind = kd at *
              have dY := Y1.below (w' := w'.drew) ⟨rfl, rfl, rfl, Nat.le_refl _, fun _ _ => rfl⟩
              have dS := S1.kp (Kp.below (G := G) (w := w') (w' := w'.drew) ⟨rfl, rfl, rfl, Nat.le_refl _, fun _ _ => rfl⟩)
              have c2 : w'.drew.cell? ⟨q, 2, none⟩ = some s.u := show w'.cell? ⟨q, 2, none⟩ = some s.u by simp [World.cell?, Y1.box]
              have hml := outs_few Y1.X.M.ris Y1.mo
              go_wp2_with (go_at_call 15; refine (num7 _ _).mono ?_; rintro e' wn ⟨rfl, hwn⟩; subst wn)
              go_region_held3 (fun w' => w'.cell? ⟨q, 2, none⟩ = some s.u)
                (first | exact c2 | exact c2b | exact c2c)
                (first
                  | (go_at_call 16; refine (blocks_ok dY.X.T dY.X.M (by omega)).mono ?_; rintro e' wb ⟨gB, cB, rfl, rB, bB⟩; have Yb := dY.below bB; have Sb := dS.kp (Kp.below bB); have c2b : wb.cell? ⟨q, 2, none⟩ = some s.u := by { simp [World.cell?, Yb.box] })
                  | (go_at_call 35; refine (sameInts7 (G := fun _ => False) (H := G) (l := m.map (·.1)) ⟨by { rw [List.length_map, List.map_map]; exact own_zero rB }, fun _ _ => id⟩ Sb.n (by simp; omega)).mono ?_; rintro e' wc ⟨rfl, bC⟩; have Yc := Yb.below bC; have Sc := Sb.kp (Kp.below bC); have c2c : wc.cell? ⟨q, 2, none⟩ = some s.u := by { simp [World.cell?, Yc.box] }))
              all_goals
                have Tc := ((T1.kp (Kp.below (w' := w'.drew) ⟨rfl, rfl, rfl, Nat.le_refl _, fun _ _ => rfl⟩)).kp (Kp.below bB)).kp (Kp.below bC)
                have sW := (B1').size
                have Bc : Below w.heap.size w wc := ((B1').trans ((show Below w'.heap.size w' w'.drew from ⟨rfl, rfl, rfl, Nat.le_refl _, fun _ _ => rfl⟩).mono sW)).trans ((bB.mono sW).trans (bC.mono (by have := bB.size; exact Nat.le_trans sW this)))
                go_wp2_with fail
                go_roundw
                case rel => exact ⟨k + 1, la, rfl, by omega, by omega, by simp, rfl, ⟨⟨_, _, _, _, _, _, _, _, Yc.more, Sc⟩, Tc, Bc⟩⟩
                case measure => simp [intOf]; omega
    · have hend : ¬ (k : Int) < n ∨ ((k : Int) < n ∧ ¬ (k : Int) < 100) := by omega
      have hml := outs_few Y.X.M.ris Y.mo
      cases com
      · rcases hend with hd | ⟨hd1, hd2⟩
        · as_aux_lemma =>
          go_wp2_with fail
          refine (drop7 Y.X Br.size (by omega) (by omega)).mono ?_
          rintro e' wA ⟨rfl, E⟩
          obtain ⟨tdA, BlA, kpA, S9, N9, G', seq9, pl9, fr9, nd9, a9, fa9, off9, JA, hG', see9⟩ := E
          have TA := T.to kpA hG'
          have BA := Br.trans BlA
          have gA : ∀ i, G' i → w.heap.size ≤ i := fun i r => (hG' i r).elim (gB i) (fun r => Nat.le_trans Br.size r)
          have hfl := hxl
          have hfin : ∀ (k o : Nat) (x : It), (outs 40)[k]? = some o → xs[k]? = some x → x.bs = seesF S9 [] fa9 a9 fa9 o := fun k o x ho hx => by
            have h1 := outs_in (List.mem_of_getElem? ho)
            rw [see9 o h1.2, hxz x (List.mem_of_getElem? hx)]
            exact (F40_out h1.1 (by omega)).symm
          clear Y So T kpA BlA Br
          have dT := TA.kp (Kp.below (w' := wA.drew) ⟨rfl, rfl, rfl, Nat.le_refl _, fun _ _ => rfl⟩)
          have hS0 : ∀ w'' : World, Tn w'' G' tw db (.slice (some ⟨go, 0, none⟩) 10 co) (.slice (some ⟨gw, 0, none⟩) 10 cw) (outs 40) xs → (w''.cell? ⟨tw, 3, none⟩ = some (.slice (some ⟨go, 0, none⟩) 10 co) ∧ w''.cell? ⟨go, 0, none⟩ = some (.int .i64 ((0 : Nat) : Nat))) := fun w'' hT => by
            have r := hT.o.row
            rw [outs_len] at r
            exact ⟨by simp [World.cell?, hT.box], by rw [r.cellAt 0 (by omega), outs_40]; rfl⟩
          have k0 := hS0 _ dT
          have dTd : Td wA.drew tb := tdA
          go_wp2_with fail
          go_region_held3 (fun w'' => w''.cell? ⟨tw, 3, none⟩ = some (.slice (some ⟨go, 0, none⟩) 10 co) ∧ w''.cell? ⟨go, 0, none⟩ = some (.int .i64 ((0 : Nat) : Nat)))
            (first | exact k0 | exact ka | exact kb)
            (first
              | (go_at_call 28; refine (block7 none 0 0 [] wA.drew (by omega) (Lies.nil _)).mono ?_; rintro e' wa ⟨ga, ca, rfl, oa, ba⟩; have Ta := dT.kp (Kp.below ba); have ka := hS0 _ Ta; have tda : Td wa tb := (ba.block tb (heap_lt dTd)).trans dTd)
              | (go_at_call 27; refine (txWrite_end tda 0 _).mono ?_; rintro e' wb ⟨rfl, rfl⟩; have kb := ka))
          have Ja := (JA.below (w' := wA.drew) ⟨rfl, rfl, rfl, Nat.le_refl _, fun _ _ => rfl⟩).below ba
          have Ba : Below w.heap.size w wb := (BA.trans ((show Below wA.heap.size wA wA.drew from ⟨rfl, rfl, rfl, Nat.le_refl _, fun _ _ => rfl⟩).mono BA.size)).trans (ba.mono BA.size)
          have hxo : ∀ (k o : Nat) (x : It), (outs 40)[k]? = some o → (xs)[k]? = some x → x.bs = seesF S9 [] fa9 a9 fa9 o := hfin
          clear dT hS0 k0 ka kb dTd
          go_wp2_with fail
          refine (num7 _ _).mono ?_
          rintro e' wn ⟨rfl, hwn⟩
          subst wn
          go_wp2_with fail
          refine (holds7 Ja off9 Ta hfl hxo Ba.size gA (by omega)).mono ?_
          rintro e' wH ⟨rfl, bH⟩
          go_wp2_with fail
          go_ret
          exact ⟨rfl, Ba.trans bH⟩
        · as_aux_lemma =>
          go_wp2_with fail
          refine (drop7 Y.X Br.size (by omega) (by omega)).mono ?_
          rintro e' wA ⟨rfl, E⟩
          obtain ⟨tdA, BlA, kpA, S9, N9, G', seq9, pl9, fr9, nd9, a9, fa9, off9, JA, hG', see9⟩ := E
          have TA := T.to kpA hG'
          have BA := Br.trans BlA
          have gA : ∀ i, G' i → w.heap.size ≤ i := fun i r => (hG' i r).elim (gB i) (fun r => Nat.le_trans Br.size r)
          have hfl := hxl
          have hfin : ∀ (k o : Nat) (x : It), (outs 40)[k]? = some o → xs[k]? = some x → x.bs = seesF S9 [] fa9 a9 fa9 o := fun k o x ho hx => by
            have h1 := outs_in (List.mem_of_getElem? ho)
            rw [see9 o h1.2, hxz x (List.mem_of_getElem? hx)]
            exact (F40_out h1.1 (by omega)).symm
          clear Y So T kpA BlA Br
          have dT := TA.kp (Kp.below (w' := wA.drew) ⟨rfl, rfl, rfl, Nat.le_refl _, fun _ _ => rfl⟩)
          have hS0 : ∀ w'' : World, Tn w'' G' tw db (.slice (some ⟨go, 0, none⟩) 10 co) (.slice (some ⟨gw, 0, none⟩) 10 cw) (outs 40) xs → (w''.cell? ⟨tw, 3, none⟩ = some (.slice (some ⟨go, 0, none⟩) 10 co) ∧ w''.cell? ⟨go, 0, none⟩ = some (.int .i64 ((0 : Nat) : Nat))) := fun w'' hT => by
            have r := hT.o.row
            rw [outs_len] at r
            exact ⟨by simp [World.cell?, hT.box], by rw [r.cellAt 0 (by omega), outs_40]; rfl⟩
          have k0 := hS0 _ dT
          have dTd : Td wA.drew tb := tdA
          go_wp2_with fail
          go_region_held3 (fun w'' => w''.cell? ⟨tw, 3, none⟩ = some (.slice (some ⟨go, 0, none⟩) 10 co) ∧ w''.cell? ⟨go, 0, none⟩ = some (.int .i64 ((0 : Nat) : Nat)))
            (first | exact k0 | exact ka | exact kb)
            (first
              | (go_at_call 28; refine (block7 none 0 0 [] wA.drew (by omega) (Lies.nil _)).mono ?_; rintro e' wa ⟨ga, ca, rfl, oa, ba⟩; have Ta := dT.kp (Kp.below ba); have ka := hS0 _ Ta; have tda : Td wa tb := (ba.block tb (heap_lt dTd)).trans dTd)
              | (go_at_call 27; refine (txWrite_end tda 0 _).mono ?_; rintro e' wb ⟨rfl, rfl⟩; have kb := ka))
          have Ja := (JA.below (w' := wA.drew) ⟨rfl, rfl, rfl, Nat.le_refl _, fun _ _ => rfl⟩).below ba
          have Ba : Below w.heap.size w wb := (BA.trans ((show Below wA.heap.size wA wA.drew from ⟨rfl, rfl, rfl, Nat.le_refl _, fun _ _ => rfl⟩).mono BA.size)).trans (ba.mono BA.size)
          have hxo : ∀ (k o : Nat) (x : It), (outs 40)[k]? = some o → (xs)[k]? = some x → x.bs = seesF S9 [] fa9 a9 fa9 o := hfin
          clear dT hS0 k0 ka kb dTd
          go_wp2_with fail
          refine (num7 _ _).mono ?_
          rintro e' wn ⟨rfl, hwn⟩
          subst wn
          go_wp2_with fail
          refine (holds7 Ja off9 Ta hfl hxo Ba.size gA (by omega)).mono ?_
          rintro e' wH ⟨rfl, bH⟩
          go_wp2_with fail
          go_ret
          exact ⟨rfl, Ba.trans bH⟩
      · rcases hend with hd | ⟨hd1, hd2⟩
        · as_aux_lemma =>
          obtain ⟨gn, cn, hv⟩ := So.x.form So.len
          have HV : Hid (s.v = (.slice (some ⟨gn, 0, none⟩) 10 cn)) := hv
          clear hv
          go_wp2_with fail
          refine (commit7 Y.X hml (outs_low Y.mo) (by omega) Br.size gB (by omega) (by omega) (by omega)).mono ?_
          rintro e' wY ⟨rfl, E⟩
          obtain ⟨tdY, BlA, kpA, S9, N9, G', seq9, pl9, fr9, nd9, a9, fa9, off9, JY, hG', see9⟩ := E
          have TY := T.to kpA hG'
          have XY := So.x.to kpA hG'
          rw [HV.out] at XY
          have boxY := kpA.block _ _ _ _ Y.gq Y.box (by decide)
          have c1 : wY.cell? ⟨q, 1, none⟩ = some (.slice (some ⟨gn, 0, none⟩) 10 cn) := by simp [World.cell?, boxY, HV.out]
          have c4 : wY.cell? ⟨tw, 4, none⟩ = some (.slice (some ⟨gw, 0, none⟩) 10 cw) := by simp [World.cell?, TY.box]
          have cf : wY.frozen? ⟨tw, 4, none⟩ = false := by simp [World.frozen?, TY.box]
          have uA := Turns.cell wY tw 4 (.slice (some ⟨gn, 0, none⟩) 10 cn)
          have hSo := So.see
          have hfl := So.len
          have BY := Br.trans BlA
          have gA : ∀ i, G' i → w.heap.size ≤ i := fun i r => (hG' i r).elim (gB i) (fun r => Nat.le_trans Br.size r)
          have ltq : w.heap.size ≤ tw := by omega
          have HP : Hid (Tn (wY.setCell ⟨tw, 4, none⟩ (.slice (some ⟨gn, 0, none⟩) 10 cn)) G' tw db (.slice (some ⟨go, 0, none⟩) 10 co) (.slice (some ⟨gn, 0, none⟩) 10 cn) (outs 40) s.xs ∧ Jn (wY.setCell ⟨tw, 4, none⟩ (.slice (some ⟨gn, 0, none⟩) 10 cn)) db S9 40 N9 G' jb 2 30 seq9 pl9 fr9 bm nd9 a9 fa9 ∧ Td (wY.setCell ⟨tw, 4, none⟩ (.slice (some ⟨gn, 0, none⟩) 10 cn)) tb ∧ Below w.heap.size w (wY.setCell ⟨tw, 4, none⟩ (.slice (some ⟨gn, 0, none⟩) 10 cn))) := ⟨⟨heap_setCell_same _ tw 4 _ _ _ TY.box, TY.o.turn1 TY.box (by decide) uA, XY.turn1 TY.box (by decide) (by decide) uA, TY.gt⟩, JY.turn1 TY.box (by decide) (by decide) TY.gt uA, (uA.block tb (heap_lt tdY) (fun e => by have h1 := TY.box; have h2 := tdY; unfold Td at h2; rw [← e, h2] at h1; simp at h1)).trans tdY, BY.trans (uA.below (fun i e => by omega) BY.size)⟩
          clear Y So T kpA BlA Br TY XY boxY uA JY tdY BY
          go_wp2_with (go_at_call 15; refine (num7 _ _).mono ?_; rintro e' wn ⟨rfl, hwn⟩; subst wn)
          obtain ⟨TA, JA, tdA, BA⟩ := HP.out
          clear HP
          obtain ⟨wA, hwA⟩ : ∃ W, wY.setCell ⟨tw, 4, none⟩ (.slice (some ⟨gn, 0, none⟩) 10 cn) = W := ⟨_, rfl⟩
          rw [hwA] at TA JA tdA BA ⊢
          clear c1 c4 cf hwA
          have hfin : ∀ (k o : Nat) (x : It), (outs 40)[k]? = some o → s.xs[k]? = some x → x.bs = seesF S9 [] fa9 a9 fa9 o := fun k o x ho hx => by
            have h1 := outs_in (List.mem_of_getElem? ho)
            rw [see9 o h1.2]
            exact hSo k o x ho hx
          have dT := TA.kp (Kp.below (w' := wA.drew) ⟨rfl, rfl, rfl, Nat.le_refl _, fun _ _ => rfl⟩)
          have hS0 : ∀ w'' : World, Tn w'' G' tw db (.slice (some ⟨go, 0, none⟩) 10 co) (.slice (some ⟨gn, 0, none⟩) 10 cn) (outs 40) s.xs → (w''.cell? ⟨tw, 3, none⟩ = some (.slice (some ⟨go, 0, none⟩) 10 co) ∧ w''.cell? ⟨go, 0, none⟩ = some (.int .i64 ((0 : Nat) : Nat))) := fun w'' hT => by
            have r := hT.o.row
            rw [outs_len] at r
            exact ⟨by simp [World.cell?, hT.box], by rw [r.cellAt 0 (by omega), outs_40]; rfl⟩
          have k0 := hS0 _ dT
          have dTd : Td wA.drew tb := tdA
          go_wp2_with fail
          go_region_held3 (fun w'' => w''.cell? ⟨tw, 3, none⟩ = some (.slice (some ⟨go, 0, none⟩) 10 co) ∧ w''.cell? ⟨go, 0, none⟩ = some (.int .i64 ((0 : Nat) : Nat)))
            (first | exact k0 | exact ka | exact kb)
            (first
              | (go_at_call 28; refine (block7 none 0 0 [] wA.drew (by omega) (Lies.nil _)).mono ?_; rintro e' wa ⟨ga, ca, rfl, oa, ba⟩; have Ta := dT.kp (Kp.below ba); have ka := hS0 _ Ta; have tda : Td wa tb := (ba.block tb (heap_lt dTd)).trans dTd)
              | (go_at_call 27; refine (txWrite_end tda 0 _).mono ?_; rintro e' wb ⟨rfl, rfl⟩; have kb := ka))
          have Ja := (JA.below (w' := wA.drew) ⟨rfl, rfl, rfl, Nat.le_refl _, fun _ _ => rfl⟩).below ba
          have Ba : Below w.heap.size w wb := (BA.trans ((show Below wA.heap.size wA wA.drew from ⟨rfl, rfl, rfl, Nat.le_refl _, fun _ _ => rfl⟩).mono BA.size)).trans (ba.mono BA.size)
          have hxo : ∀ (k o : Nat) (x : It), (outs 40)[k]? = some o → (s.xs)[k]? = some x → x.bs = seesF S9 [] fa9 a9 fa9 o := hfin
          clear dT hS0 k0 ka kb dTd
          go_wp2_with fail
          refine (num7 _ _).mono ?_
          rintro e' wn ⟨rfl, hwn⟩
          subst wn
          go_wp2_with fail
          refine (holds7 Ja off9 Ta hfl hxo Ba.size gA (by omega)).mono ?_
          rintro e' wH ⟨rfl, bH⟩
          go_wp2_with fail
          go_ret
          exact ⟨rfl, Ba.trans bH⟩
        · as_aux_lemma =>
          obtain ⟨gn, cn, hv⟩ := So.x.form So.len
          have HV : Hid (s.v = (.slice (some ⟨gn, 0, none⟩) 10 cn)) := hv
          clear hv
          go_wp2_with fail
          refine (commit7 Y.X hml (outs_low Y.mo) (by omega) Br.size gB (by omega) (by omega) (by omega)).mono ?_
          rintro e' wY ⟨rfl, E⟩
          obtain ⟨tdY, BlA, kpA, S9, N9, G', seq9, pl9, fr9, nd9, a9, fa9, off9, JY, hG', see9⟩ := E
          have TY := T.to kpA hG'
          have XY := So.x.to kpA hG'
          rw [HV.out] at XY
          have boxY := kpA.block _ _ _ _ Y.gq Y.box (by decide)
          have c1 : wY.cell? ⟨q, 1, none⟩ = some (.slice (some ⟨gn, 0, none⟩) 10 cn) := by simp [World.cell?, boxY, HV.out]
          have c4 : wY.cell? ⟨tw, 4, none⟩ = some (.slice (some ⟨gw, 0, none⟩) 10 cw) := by simp [World.cell?, TY.box]
          have cf : wY.frozen? ⟨tw, 4, none⟩ = false := by simp [World.frozen?, TY.box]
          have uA := Turns.cell wY tw 4 (.slice (some ⟨gn, 0, none⟩) 10 cn)
          have hSo := So.see
          have hfl := So.len
          have BY := Br.trans BlA
          have gA : ∀ i, G' i → w.heap.size ≤ i := fun i r => (hG' i r).elim (gB i) (fun r => Nat.le_trans Br.size r)
          have ltq : w.heap.size ≤ tw := by omega
          have HP : Hid (Tn (wY.setCell ⟨tw, 4, none⟩ (.slice (some ⟨gn, 0, none⟩) 10 cn)) G' tw db (.slice (some ⟨go, 0, none⟩) 10 co) (.slice (some ⟨gn, 0, none⟩) 10 cn) (outs 40) s.xs ∧ Jn (wY.setCell ⟨tw, 4, none⟩ (.slice (some ⟨gn, 0, none⟩) 10 cn)) db S9 40 N9 G' jb 2 30 seq9 pl9 fr9 bm nd9 a9 fa9 ∧ Td (wY.setCell ⟨tw, 4, none⟩ (.slice (some ⟨gn, 0, none⟩) 10 cn)) tb ∧ Below w.heap.size w (wY.setCell ⟨tw, 4, none⟩ (.slice (some ⟨gn, 0, none⟩) 10 cn))) := ⟨⟨heap_setCell_same _ tw 4 _ _ _ TY.box, TY.o.turn1 TY.box (by decide) uA, XY.turn1 TY.box (by decide) (by decide) uA, TY.gt⟩, JY.turn1 TY.box (by decide) (by decide) TY.gt uA, (uA.block tb (heap_lt tdY) (fun e => by have h1 := TY.box; have h2 := tdY; unfold Td at h2; rw [← e, h2] at h1; simp at h1)).trans tdY, BY.trans (uA.below (fun i e => by omega) BY.size)⟩
          clear Y So T kpA BlA Br TY XY boxY uA JY tdY BY
          go_wp2_with (go_at_call 15; refine (num7 _ _).mono ?_; rintro e' wn ⟨rfl, hwn⟩; subst wn)
          obtain ⟨TA, JA, tdA, BA⟩ := HP.out
          clear HP
          obtain ⟨wA, hwA⟩ : ∃ W, wY.setCell ⟨tw, 4, none⟩ (.slice (some ⟨gn, 0, none⟩) 10 cn) = W := ⟨_, rfl⟩
          rw [hwA] at TA JA tdA BA ⊢
          clear c1 c4 cf hwA
          have hfin : ∀ (k o : Nat) (x : It), (outs 40)[k]? = some o → s.xs[k]? = some x → x.bs = seesF S9 [] fa9 a9 fa9 o := fun k o x ho hx => by
            have h1 := outs_in (List.mem_of_getElem? ho)
            rw [see9 o h1.2]
            exact hSo k o x ho hx
          have dT := TA.kp (Kp.below (w' := wA.drew) ⟨rfl, rfl, rfl, Nat.le_refl _, fun _ _ => rfl⟩)
          have hS0 : ∀ w'' : World, Tn w'' G' tw db (.slice (some ⟨go, 0, none⟩) 10 co) (.slice (some ⟨gn, 0, none⟩) 10 cn) (outs 40) s.xs → (w''.cell? ⟨tw, 3, none⟩ = some (.slice (some ⟨go, 0, none⟩) 10 co) ∧ w''.cell? ⟨go, 0, none⟩ = some (.int .i64 ((0 : Nat) : Nat))) := fun w'' hT => by
            have r := hT.o.row
            rw [outs_len] at r
            exact ⟨by simp [World.cell?, hT.box], by rw [r.cellAt 0 (by omega), outs_40]; rfl⟩
          have k0 := hS0 _ dT
          have dTd : Td wA.drew tb := tdA
          go_wp2_with fail
          go_region_held3 (fun w'' => w''.cell? ⟨tw, 3, none⟩ = some (.slice (some ⟨go, 0, none⟩) 10 co) ∧ w''.cell? ⟨go, 0, none⟩ = some (.int .i64 ((0 : Nat) : Nat)))
            (first | exact k0 | exact ka | exact kb)
            (first
              | (go_at_call 28; refine (block7 none 0 0 [] wA.drew (by omega) (Lies.nil _)).mono ?_; rintro e' wa ⟨ga, ca, rfl, oa, ba⟩; have Ta := dT.kp (Kp.below ba); have ka := hS0 _ Ta; have tda : Td wa tb := (ba.block tb (heap_lt dTd)).trans dTd)
              | (go_at_call 27; refine (txWrite_end tda 0 _).mono ?_; rintro e' wb ⟨rfl, rfl⟩; have kb := ka))
          have Ja := (JA.below (w' := wA.drew) ⟨rfl, rfl, rfl, Nat.le_refl _, fun _ _ => rfl⟩).below ba
          have Ba : Below w.heap.size w wb := (BA.trans ((show Below wA.heap.size wA wA.drew from ⟨rfl, rfl, rfl, Nat.le_refl _, fun _ _ => rfl⟩).mono BA.size)).trans (ba.mono BA.size)
          have hxo : ∀ (k o : Nat) (x : It), (outs 40)[k]? = some o → (s.xs)[k]? = some x → x.bs = seesF S9 [] fa9 a9 fa9 o := hfin
          clear dT hS0 k0 ka kb dTd
          go_wp2_with fail
          refine (num7 _ _).mono ?_
          rintro e' wn ⟨rfl, hwn⟩
          subst wn
          go_wp2_with fail
          refine (holds7 Ja off9 Ta hfl hxo Ba.size gA (by omega)).mono ?_
          rintro e' wH ⟨rfl, bH⟩
          go_wp2_with fail
          go_ret
          exact ⟨rfl, Ba.trans bH⟩
end Go.Proofs.YtnmdnglbpkpfdaaGreatDoor
