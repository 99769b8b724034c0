/- fill by its contract. -/
import Derived.Test.YtnmdnglbpkpfdaaGreatDoorPk18
import Derived.Test.YtnmdnglbpkpfdaaGreatDoorPk03
namespace Go.Proofs.YtnmdnglbpkpfdaaGreatDoor
open Go.RowKit Go.Maps
set_option maxRecDepth 100000
set_option maxHeartbeats 4000000 in
theorem fillG {w wi : World} {G : Nat → Prop} {d : Nat} {S : DevS} {k N jb st sz n : Nat} {seq : Int} {place : Nat} {free : Int} {bm nd : Nat} {a : List (Nat × Nat)} {fa : Nat → List Int} {tb wm : Nat} {f : Nat → List Int} {sv : Value} {last : Int} {tw : Nat} {ov wv : Value} {os : List Nat} {xs : List It} (X : Tx w d S k N G jb st sz seq place free bm nd a fa tb wm 0 [] f sv last) (T : Tg w G tw d st sz ov wv os xs) (hol : os.length = n) (hxl : xs.length = n) (hn : 0 < n ∧ n ≤ 4096) (ho : S.off = false) (h2 : st + sz ≤ k) (hos : ∀ o ∈ os, o < k ∧ (o < st ∨ st + sz ≤ o)) (hnd : os.Nodup) (hsee : ∀ (i o : Nat) (x : It), os[i]? = some o → xs[i]? = some x → x.bs = seesF S [] f a fa o)
    (B : Nat) (hB : Below B wi w) (hBi : B ≤ wi.heap.size) (hGB : ∀ i, G i → B ≤ i) (hwB : B ≤ wm) (htB : B ≤ tb) (ao : Option Addr) (np c : Nat) (ps : List Pt) (hnp : np ≤ 140737488355328) (hP : PtLies wi ao np ps) (hPB : wi.heap.size ≤ B) :
    Calls Tryz.prog 13 #[.pointer (some ⟨tw, 0, none⟩), .pointer (some ⟨tb, 0, none⟩), .slice ao np c] w fun e w' => FillR B w w' G d S k N jb st sz seq place free bm nd a fa tb wm sv last tw ov wv os xs e := by
  obtain ⟨i0, hi, hz0, hz1, hz2⟩ := info_parts Tryz.info3
  obtain ⟨i1, ki, kz0, kz1, kz2⟩ := info_parts Tryz.infoS7
  obtain ⟨go, co, gw, cw, rfl, rfl⟩ := T.form hol hxl hn.1
  have hn0 : 0 < n := hn.1
  have hni : (n : Int) ≤ 4096 := by omega
  have y4 : w.cell? ⟨tw, 4, none⟩ = some (.slice (some ⟨gw, 0, none⟩) n cw) := by simp [World.cell?, T.box]
  go_enter Tryz.func13, Tryz.ntmps13
  go_wp2_with fail
  go_loopw [8, 9] (fun v i wr => ∃ t : Nat, t ≤ n ∧ i = .int .i64 t ∧ wr.ownsRow w.heap.size 56 1 v t ((xs.take t).map It.val) ∧ Below w.heap.size w wr) (fun _ i _ => n - (intOf i).toNat)
  case atStart => exact ⟨0, Nat.zero_le _, rfl, World.ownsRow_nil _ _ _ _, Below.refl _ _⟩
  case round =>
    obtain ⟨t, htn, rfl, hown, hb⟩ := hrel
    have Tr := T.kp (Kp.below hb)
    have z4 : wr.cell? ⟨tw, 4, none⟩ = some (.slice (some ⟨gw, 0, none⟩) n cw) := by simp [World.cell?, Tr.box]
    by_cases hlt : t < n
    · have hti : (t : Int) < n := by omega
      obtain ⟨x, hx⟩ : ∃ x, xs[t]? = some x := ⟨_, List.getElem?_eq_getElem (by rw [hxl]; exact hlt)⟩
      have zx : wr.cell? ⟨gw, t, none⟩ = some (.slice (some ⟨x.g, 0, none⟩) 512 x.cap) := by
        have r2 := Tr.x.row
        rw [hxl] at r2
        rw [r2.cellAt t (by omega), List.getElem?_map, hx]; rfl
      have HS : Hid (xs.take (t + 1) = xs.take t ++ [x]) := by
        show xs.take (t + 1) = xs.take t ++ [x]
        rw [List.take_succ_eq_append_getElem (by omega)]
        rw [(List.getElem?_eq_some_iff.1 hx).2]
      clear Tr y4
      go_wp2_with (at_builtin; refine wpList_append_own _ rfl (.tmp 25) (.tmp 33) 33 rfl w.heap.size 56 i1 (.slice none 0 0) 1 24 Tryz.underlying33 ki kz0 kz1 kz2 rfl (by decide) _ _ _ rfl (hown.alloc _) ⟨wr.heap.size, 0, none⟩ 1 1 [.slice (some ⟨x.g, 0, none⟩) 512 x.cap] rfl rfl (cell_one7 _ _ _) (by intro u hu; simp at hu; subst hu; rfl) (by unfold maxLen; omega) (by omega) (by have := hb.size; simp; omega) ?_; intro v' w1 hown1 hgrow1 hnil1)
      go_roundw
      case rel =>
        refine ⟨t + 1, by omega, by go_num, ?_, ?_⟩
        · rw [HS.out, List.map_append]; exact hown1
        · exact (hb.alloc hb.size _).grown hgrow1 (by simp; have := hb.size; omega) (fun k hk => (hown.lt k hk).1)
      case measure => simp [intOf]; omega
    · have hti : ¬ (t : Int) < n := by omega
      obtain rfl : t = n := by omega
      rw [List.take_of_length_le (by omega)] at hown
      obtain ⟨gn, cn, rfl⟩ : ∃ gn cn, u8 = .slice (some ⟨gn, 0, none⟩) t cn := by
        obtain ⟨g, c, e, _⟩ := (row_nat hown).resolve_left (fun q => by omega)
        exact ⟨g, c, e⟩
      have hGl := X.D.lt
      have ln1 : ∀ b, (Value.slice (some ⟨gn, 0, none⟩) t cn).ownBlock = some b → w.heap.size ≤ b := fun b hb' => (hown.lt b hb').1
      have HI : Hid (FlI B w wr G d S k N jb st sz seq place free bm nd a fa tb wm sv last tw (.slice (some ⟨go, 0, none⟩) t co) (.slice (some ⟨gw, 0, none⟩) t cw) os xs 0 [] f (.slice (some ⟨gn, 0, none⟩) t cn) xs (.slice none 0 0) []) := by
        have hx2 : Wt wr G (.slice (some ⟨gn, 0, none⟩) t cn) xs := ⟨by rw [hxl]; exact own_zero hown, fun b hb' r => by have := hGl b r; have := ln1 b hb'; omega, fun x hx => (T.x.it x hx).kp (Kp.below hb)⟩
        refine ⟨X.below hb, Tr, hx2, ⟨⟨rfl, Or.inl ⟨rfl, rfl⟩⟩, (fun b hb' => by cases hb')⟩, by rw [hxl, hol], hsee, (fun p hp => by cases hp), fun j => ⟨(fun q => by cases q), fun ⟨o, _, q⟩ => by simp [lk] at q⟩, List.nodup_nil, rfl, by simp, fun e => ?_, ln1, (fun b hb' => by cases hb'), hb.mono (by have := hB.size; omega), Below.turns hb _⟩
        have h9 := (T.x.row.lt gw rfl).2
        have e : some gw = some gn := e
        have := ln1 gn rfl
        cases e
        omega
      clear Tr hown hb
      have HE : Hid (FlE B w wr G d S k N jb st sz seq place free bm nd a fa tb wm sv last tw (.slice (some ⟨go, 0, none⟩) t co) (.slice (some ⟨gw, 0, none⟩) t cw) os xs (.slice (some ⟨gn, 0, none⟩) t cn) (.slice none 0 0) 0) := ⟨0, [], f, xs, [], HI.out, Nat.le_refl _⟩
      clear HI
      go_wp2_with fail
      go_loopw [10, 11] (fun sn i wq => ∃ q : Nat, q ≤ np ∧ q ≤ 60 ∧ i = .int .i64 q ∧ FlE B w wq G d S k N jb st sz seq place free bm nd a fa tb wm sv last tw (.slice (some ⟨go, 0, none⟩) t co) (.slice (some ⟨gw, 0, none⟩) t cw) os xs (.slice (some ⟨gn, 0, none⟩) t cn) sn q) (fun _ i _ => 60 - (intOf i).toNat)
      case atStart => exact ⟨0, Nat.zero_le _, Nat.zero_le _, rfl, HE.out⟩
      case round =>
        clear HE
        obtain ⟨q, hq1, hq2, rfl, ns, m, f9, ys, ks, I, hns⟩ := hrel
        obtain ⟨w2, hw2⟩ : ∃ w2, w2 = wr := ⟨_, rfl⟩
        subst hw2
        obtain rfl : B = wi.heap.size := by omega
        have Bq : Below wi.heap.size wi w2 := hB.trans I.bw
        obtain ⟨sa, sc, hsn⟩ : ∃ sa sc, u10 = .slice sa ks.length sc := by
          rcases row_nat I.K.row with ⟨h, h0⟩ | ⟨g, c, h, _⟩
          · exact ⟨none, 0, by rw [h, h0]⟩
          · exact ⟨_, _, h⟩
        subst hsn
        by_cases hlt : q < np ∧ q < 60
        · obtain ⟨hl1, hl2⟩ := hlt
          have hq1i : (q : Int) < np := by omega
          have hq2i : (q : Int) < 60 := by omega
          have hnpi : (np : Int) ≤ 140737488355328 := by omega
          obtain ⟨e, he⟩ : ∃ e, ps[q]? = some e := ⟨_, List.getElem?_eq_getElem (by rw [hP.hlen]; exact hl1)⟩
          obtain ⟨PI, ge, pe, rfl, hc⟩ := hP.hcells q e he
          have z0 : w2.cell? ⟨ge, pe + q * 2, none⟩ = some (.int .i64 e.pb) := cell_later Bq (hc 0 _ rfl)
          have z1 : w2.cell? ⟨ge, pe + q * 2 + 1, none⟩ = some (.slice e.da e.dn e.dc) := cell_later Bq (hc 1 _ rfl)
          have HLS : Hid (∀ b, (Value.slice sa ks.length sc).ownBlock = some b → w.heap.size ≤ b) := I.ls
          have hPc : Hid (∀ w'', Below wi.heap.size wi w'' → w''.cell? ⟨ge, pe + q * 2 + 1, none⟩ = some (.slice e.da e.dn e.dc)) := fun w'' b => cell_later b (hc 1 _ rfl)
          obtain ⟨L, hL⟩ : ∃ L, ks.length = L := ⟨_, rfl⟩
          have HL : Hid (ks.length = L) := hL
          have hL24 : L ≤ 24 := by rw [← hL, I.kl]; exact I.few
          have HLS9 : Hid (∀ b, (Value.slice sa L sc).ownBlock = some b → w.heap.size ≤ b) := by
            show ∀ b, (Value.slice sa L sc).ownBlock = some b → w.heap.size ≤ b
            rw [← hL]
            exact HLS.out
          have I : FlI wi.heap.size w w2 G d S k N jb st sz seq place free bm nd a fa tb wm sv last tw (.slice (some ⟨go, 0, none⟩) t co) (.slice (some ⟨gw, 0, none⟩) t cw) os xs ns m f9 (.slice (some ⟨gn, 0, none⟩) t cn) ys (.slice sa L sc) ks := by rw [← hL]; exact I
          rw [hL]
          clear hL hc he
          go_wp2_with fail
          refine (placeG I.T hol hn e.pb).mono ?_
          rintro e' w3 ⟨j, hj, rfl, rfl⟩
          go_wp2_with fail
          go_loopw [13, 14] (fun kn i wz => ∃ z : Nat, z ≤ L ∧ i = .int .i64 z ∧ KnI ks j z kn wz w3) (fun _ i _ => L - (intOf i).toNat)
          case atStart => exact ⟨0, Nat.zero_le _, rfl, by simp, rfl⟩
          case round =>
            obtain ⟨z, hzL, rfl, hkn1, hkn2⟩ := hrel
            subst hkn1
            subst hkn2
            by_cases hzl : z < L
            · have hzi : (z : Int) < L := by omega
              obtain ⟨y, hy⟩ : ∃ y, ks[z]? = some y := ⟨_, List.getElem?_eq_getElem (by rw [HL.out]; exact hzl)⟩
              have hrow := I.K.row
              rw [HL.out] at hrow
              obtain ⟨gs, cs, hgs, _⟩ := (row_nat hrow).resolve_left (fun q => by omega)
              obtain rfl : sa = some ⟨gs, 0, none⟩ := by injection hgs
              obtain rfl : sc = cs := by injection hgs
              clear hgs
              have zy : wr.cell? ⟨gs, z, none⟩ = some (.int .i64 (y : Nat)) := by
                rw [hrow.cellAt z (by omega), List.getElem?_map, hy]; rfl
              have hst : ks.take (z + 1) = ks.take z ++ [y] := by
                rw [List.take_succ_eq_append_getElem (by rw [HL.out]; exact hzl), (List.getElem?_eq_some_iff.1 hy).2]
              have HD : Hid (decide (j ∈ ks.take (z + 1)) = (decide (j ∈ ks.take z) || decide (y = j))) := by
                show decide (j ∈ ks.take (z + 1)) = _
                rw [hst]
                simp [eq_comm]
              clear hrow hst
              by_cases hk1 : j ∈ ks.take z
              · have hd1 : decide (j ∈ ks.take z) = true := decide_eq_true hk1
                rw [hd1]
                have HD2 : Hid (decide (j ∈ ks.take (z + 1)) = true) := HD.out.trans (by rw [hd1]; rfl)
                clear hd1
                go_wp2_with fail
                go_roundw
                case rel => exact ⟨z + 1, by omega, by go_num, by rw [HD2.out], rfl⟩
                case measure => simp [intOf]; omega
              · have hd1 : decide (j ∈ ks.take z) = false := decide_eq_false hk1
                rw [hd1]
                by_cases hyj : y = j
                · have hyi : (y : Int) = j := by omega
                  have HD2 : Hid (decide (j ∈ ks.take (z + 1)) = true) := HD.out.trans (by rw [hd1]; simp [hyj])
                  clear hd1
                  go_wp2_with fail
                  go_roundw
                  case rel => exact ⟨z + 1, by omega, by go_num, by rw [HD2.out], rfl⟩
                  case measure => simp [intOf]; omega
                · have hyi : ¬ (y : Int) = j := by omega
                  have HD2 : Hid (decide (j ∈ ks.take (z + 1)) = false) := HD.out.trans (by rw [hd1]; simp [hyj])
                  clear hd1
                  go_wp2_with fail
                  go_roundw
                  case rel => exact ⟨z + 1, by omega, by go_num, by rw [HD2.out]; simp; exact hyi, rfl⟩
                  case measure => simp [intOf]; omega
            · have hzi : ¬ (z : Int) < L := by omega
              have hkt : ks.take z = ks := List.take_of_length_le (by rw [HL.out]; omega)
              rw [hkt]
              obtain ⟨o, hoj⟩ : ∃ o, os[j]? = some o := ⟨_, List.getElem?_eq_getElem (by rw [hol]; exact hj)⟩
              obtain ⟨x9, hx9⟩ : ∃ x, xs[j]? = some x := ⟨_, List.getElem?_eq_getElem (by rw [hxl]; exact hj)⟩
              have hom := List.mem_of_getElem? hoj
              have hoo := hos o hom
              have hji : (j : Int) < t := by omega
              have hS1 : ∀ w'' : World, Tg w'' G tw d st sz (.slice (some ⟨go, 0, none⟩) t co) (.slice (some ⟨gw, 0, none⟩) t cw) os xs → Below wi.heap.size wi w'' → (w''.cell? ⟨tw, 3, none⟩ = some (.slice (some ⟨go, 0, none⟩) t co) ∧ w''.cell? ⟨go, j, none⟩ = some (.int .i64 (o : Nat)) ∧ w''.cell? ⟨ge, pe + q * 2 + 1, none⟩ = some (.slice e.da e.dn e.dc)) := fun w'' hT hb => ⟨(hT.cells hol hxl hj hoj hx9).c3, (hT.cells hol hxl hj hoj hx9).ck, hPc.out w'' hb⟩
              have dI := I.X.below (w' := wr.drew) ⟨rfl, rfl, rfl, Nat.le_refl _, fun _ _ => rfl⟩
              have dT := I.T.kp (Kp.below (w' := wr.drew) ⟨rfl, rfl, rfl, Nat.le_refl _, fun _ _ => rfl⟩)
              have dB : Below wi.heap.size wi wr.drew := Bq.trans ⟨rfl, rfl, rfl, Nat.le_refl _, fun _ _ => rfl⟩
              have k0 := hS1 _ dT dB
              have dL := PI.d.below dB (Nat.le_refl _)
              have hG9 := I.X.D.lt
              go_wp2_with fail
              by_cases hkn : j ∈ ks ∨ m.length < 24
              · have hrm : (lk m o).isSome = true ∨ m.length < 24 := hkn.imp (fun h => by obtain ⟨o', h1, h2⟩ := (I.kk j).1 h; rw [hoj] at h1; cases h1; exact h2) id
                go_region_held3 (fun w'' => w''.cell? ⟨tw, 3, none⟩ = some (.slice (some ⟨go, 0, none⟩) t co) ∧ w''.cell? ⟨go, j, none⟩ = some (.int .i64 (o : Nat)) ∧ w''.cell? ⟨ge, pe + q * 2 + 1, none⟩ = some (.slice e.da e.dn e.dc))
                  (first | exact k0 | exact ka | exact kb)
                  (first
                    | (go_at_call 28; refine (block7 e.da e.dn e.dc e.ds wr.drew PI.n dL).mono ?_; rintro e' wa ⟨ga, ca, rfl, oa, ba⟩; have Xa := dI.below ba; have Ta := dT.kp (Kp.below ba); have Ba := dB.trans (ba.mono dB.size); have ka := hS1 _ Ta Ba; have La : Lies wa (some ⟨ga, 0, none⟩) 512 ca (blkB e.ds) := Lies.owned oa; have hga : ¬ G ga := fun r => by { have h1 := hG9 ga r; have h3 := (oa.lt ga rfl).1; have h3 : wr.heap.size ≤ ga := h3; omega })
                    | (go_at_call 27; refine (Tx.write Xa ho h2 o hoo.1 hoo.2 (some ⟨ga, 0, none⟩) ca _ La (blkB_by PI.y) (fun ad e => by { cases e; exact hga }) hrm (by omega)).mono ?_; rintro e' wb ⟨gb, rfl, lgb, Xb, tb'⟩; have Kb : Kp G wa wb := Kp.turns tb' (fun x cs ty fz gx hx ht e => e.elim gx (fun e => mp_cells Xa.M hx e)); have Tb' := Ta.kp Kb; have Bb := Ba.trans (tb'.below (fun i r => r.elim (hGB i) (fun e => by omega)) Ba.size); have kb := hS1 _ Tb' Bb))
                clear k0 ka kb
                have Wb := ((I.W.kp (Kp.below (w' := wr.drew) ⟨rfl, rfl, rfl, Nat.le_refl _, fun _ _ => rfl⟩)).kp (Kp.below ba)).kp Kb
                have Nb := ((I.K.kp (Kp.below (w' := wr.drew) ⟨rfl, rfl, rfl, Nat.le_refl _, fun _ _ => rfl⟩)).kp (Kp.below ba)).kp Kb
                have sw := hB.size
                have sw2 := I.bw.size
                have Bb2 : Below wi.heap.size w wb := ((I.bw.trans (show Below wi.heap.size wr wr.drew from ⟨rfl, rfl, rfl, Nat.le_refl _, fun _ _ => rfl⟩)).trans (ba.mono (Nat.le_trans sw sw2))).trans (tb'.below (fun i r => r.elim (hGB i) (fun e => by omega)) (Nat.le_trans (Nat.le_trans sw sw2) ba.size))
                have dr9 : Turns (fun i => G i ∨ i = wm) wr wr.drew := Turns.drewN _ wr 1
                have Tt : Turns (fun i => G i ∨ i = wm) w wb := ((I.tr.trans dr9 (fun _ _ r => r)).trans (Below.turns ba (fun i => G i ∨ i = wm)) (fun _ _ r => r)).trans tb' (fun _ _ r => r)
                obtain ⟨y9, hy9⟩ : ∃ y, ys[j]? = some y := ⟨_, List.getElem?_eq_getElem (by rw [I.yl, hol]; exact hj)⟩
                clear Xa Ta Ba La ba oa tb' Kb dI dT dB dL
                by_cases hk2 : j ∈ ks
                · have hd2 : decide (j ∈ ks) = true := decide_eq_true hk2
                  rw [hd2]
                  have hlks : (lk m o).isSome = true := by
                    obtain ⟨o', h1, h3⟩ := (I.kk j).1 hk2
                    rw [hoj] at h1
                    cases h1
                    exact h3
                  have pL := PI.d.below Bb (Nat.le_refl _)
                  have kc0 := hPc.out _ Bb
                  have hGc := Xb.D.lt
                  go_wp2_with (go_at_call 15; refine (num7 _ _).mono ?_; rintro e' wn ⟨rfl, hwn⟩; subst wn)
                  refine (block7 e.da e.dn e.dc e.ds wb PI.n pL).mono ?_
                  rintro e' wc ⟨gc, cc, rfl, oc, bc⟩
                  have Xc := Xb.below bc
                  have Tc := Tb'.kp (Kp.below bc)
                  have Wc := Wb.kp (Kp.below bc)
                  have Nc := Nb.kp (Kp.below bc)
                  have sB2 := Bb2.size
                  have rc : wc.ownsRow 0 56 1 (.slice (some ⟨gn, 0, none⟩) t cn) t (ys.map It.val) := by
                    have := Wc.row
                    rwa [I.yl, hol] at this
                  have zf := rc.frozenAt j
                  have zc : wc.cell? ⟨gn, j, none⟩ = some (It.val y9) := by
                    rw [rc.cellAt j (by omega), List.getElem?_map, hy9]; rfl
                  have Ic : ItOk wc G ⟨gc, cc, blkB e.ds⟩ := ⟨own_zero oc, fun r => by have h1 := hGc gc r; have h3 := (oc.lt gc rfl).1; omega, blkB_by PI.y⟩
                  obtain ⟨X9, T9, W9, N9, t9⟩ := fill_put (j := j) Xc Tc Wc (by rw [I.yl, hol]) Nc (fun e9 => I.aw (by rw [e9]; rfl)) Ic
                  have lgn := I.ln gn rfl
                  have B92 : Below wi.heap.size w (wc.setCell ⟨gn, j, none⟩ (It.val ⟨gc, cc, blkB e.ds⟩)) := (Bb2.trans (bc.mono (Nat.le_trans hB.size sB2))).trans (t9.below (fun i e => by have := hB.size; omega) (Nat.le_trans (Nat.le_trans hB.size sB2) bc.size))
                  have T92 := (Tt.trans (Below.turns bc (fun i => G i ∨ i = wm)) (fun _ _ r => r)).trans t9 (fun i hi e => by omega)
                  have HI9 : Hid (FlE wi.heap.size w (wc.setCell ⟨gn, j, none⟩ (.slice (some ⟨gc, 0, none⟩) 512 cc)) G d S k N jb st sz seq place free bm nd a fa tb wm sv last tw (.slice (some ⟨go, 0, none⟩) t co) (.slice (some ⟨gw, 0, none⟩) t cw) os xs (.slice (some ⟨gn, 0, none⟩) t cn) (.slice sa L sc) (q + 1)) := ⟨ns + 1, mput m o gb, updF f9 o (blkB e.ds), ys.set j ⟨gc, cc, blkB e.ds⟩, ks, ⟨X9, T9, W9, N9, by rw [List.length_set]; exact I.yl, put_seeG I.X.M.ris hnd I.see hoj ⟨gc, cc, blkB e.ds⟩, fun p hp => (mput_mem hp).elim (fun e9 => by rw [e9]; exact hom) (I.mo p), kk_put I.X.M.ris hnd I.kk hoj (fun i => ⟨Or.inl, fun r => r.elim id (fun e9 => by rw [e9]; exact hk2)⟩), I.kn, by rw [mput_len_old I.X.M.ris hlks]; exact I.kl, by rw [mput_len_old I.X.M.ris hlks]; exact I.few, I.aw, I.ln, HLS9.out, B92, T92⟩, by omega⟩
                  clear kc0 X9 T9 W9 N9 t9 Xc Tc Wc Nc rc Ic oc bc pL B92 T92 I
                  go_wp2_with fail
                  go_roundw
                  case rel => exact ⟨q + 1, by omega, by omega, by go_num, HI9.out⟩
                  case measure => simp [intOf]; omega
                · have hd2 : decide (j ∈ ks) = false := decide_eq_false hk2
                  rw [hd2]
                  have hm9 : m.length < 24 := hkn.resolve_left hk2
                  have hL9 : ¬ (24 : Int) ≤ L := by have := I.kl; have := HL.out; omega
                  have hlkn : lk m o = none := by
                    cases hq9 : lk m o with
                    | none => rfl
                    | some g => exact absurd ((I.kk j).2 ⟨o, hoj, by rw [hq9]; rfl⟩) hk2
                  have rN := Nb.row
                  rw [HL.out] at rN
                  have kB9 := hPc.out _ Bb
                  go_wp2_with (first
                    | (go_at_call 15; refine (num7 _ _).mono ?_; rintro e' wn ⟨rfl, hwn⟩; subst wn)
                    | (at_builtin; refine wpList_append_lies _ rfl _ _ 40 rfl 0 3 i0 (.int .i64 0) 1 8 Tryz.underlying40 hi hz0 hz1 hz2 rfl (by decide) (.slice sa L sc) L _ rfl (rN.alloc _) ⟨wb.heap.size, 0, none⟩ 1 1 [.int .i64 (j : Nat)] rfl rfl (cell_one7 _ _ _) (by intro u hu; simp at hu; subst hu; rfl) (by decide) (by unfold maxLen; omega) (by omega) (by omega) _ rfl ?_; intro g5 c5 w5 ho5 hg5 hat5 hlt5; have hA9 := fill_app Xb Tb' Wb Nb (fun b hb e9 => by { have h3 := HLS9.out b e9; have h4 := (T.o.row.lt b hb).2; omega }) HL.out ho5 hg5 hat5; have B5 : Below wi.heap.size wi w5 := Bb.trans (hA9.2.2.2.2.below (fun i r => by { have := HLS9.out i r; omega }) Bb.size); have kc5 := hPc.out _ B5))
                  obtain ⟨X5, T5, W5, N5, t5⟩ := hA9
                  have B52 : Below wi.heap.size w w5 := Bb2.trans (t5.below (fun i r => by have := HLS9.out i r; omega) (Nat.le_trans sw Bb2.size))
                  have T52 := Tt.trans t5 (fun i hi r => by have := HLS9.out i r; omega)
                  have ls5 : ∀ b, (Value.slice (some ⟨g5, 0, none⟩) (L + 1) c5).ownBlock = some b → w.heap.size ≤ b := fun b hb => by
                    have hb : some g5 = some b := hb
                    cases hb
                    rcases hat5 with e9 | e9
                    · exact HLS9.out _ e9
                    · rw [e9]
                      have := Bb2.size
                      simp
                      omega
                  have pL := PI.d.below B5 (Nat.le_refl _)
                  have kc0 := hPc.out _ B5
                  have hGc := X5.D.lt

                  refine (block7 e.da e.dn e.dc e.ds w5 PI.n pL).mono ?_
                  rintro e' wc ⟨gc, cc, rfl, oc, bc⟩
                  have Xc := X5.below bc
                  have Tc := T5.kp (Kp.below bc)
                  have Wc := W5.kp (Kp.below bc)
                  have Nc := N5.kp (Kp.below bc)
                  have sB2 := B52.size
                  have rc : wc.ownsRow 0 56 1 (.slice (some ⟨gn, 0, none⟩) t cn) t (ys.map It.val) := by
                    have := Wc.row
                    rwa [I.yl, hol] at this
                  have zf := rc.frozenAt j
                  have zc : wc.cell? ⟨gn, j, none⟩ = some (It.val y9) := by
                    rw [rc.cellAt j (by omega), List.getElem?_map, hy9]; rfl
                  have Ic : ItOk wc G ⟨gc, cc, blkB e.ds⟩ := ⟨own_zero oc, fun r => by have h1 := hGc gc r; have h3 := (oc.lt gc rfl).1; omega, blkB_by PI.y⟩
                  obtain ⟨X9, T9, W9, N9, t9⟩ := fill_put (j := j) Xc Tc Wc (by rw [I.yl, hol]) Nc (fun e9 => I.aw (by rw [e9]; rfl)) Ic
                  have lgn := I.ln gn rfl
                  have B92 : Below wi.heap.size w (wc.setCell ⟨gn, j, none⟩ (It.val ⟨gc, cc, blkB e.ds⟩)) := (B52.trans (bc.mono (Nat.le_trans hB.size sB2))).trans (t9.below (fun i e => by have := hB.size; omega) (Nat.le_trans (Nat.le_trans hB.size sB2) bc.size))
                  have T92 := (T52.trans (Below.turns bc (fun i => G i ∨ i = wm)) (fun _ _ r => r)).trans t9 (fun i hi e => by omega)
                  have HI9 : Hid (FlE wi.heap.size w (wc.setCell ⟨gn, j, none⟩ (.slice (some ⟨gc, 0, none⟩) 512 cc)) G d S k N jb st sz seq place free bm nd a fa tb wm sv last tw (.slice (some ⟨go, 0, none⟩) t co) (.slice (some ⟨gw, 0, none⟩) t cw) os xs (.slice (some ⟨gn, 0, none⟩) t cn) (.slice (some ⟨g5, 0, none⟩) (L + 1) c5) (q + 1)) := ⟨ns + 1, mput m o gb, updF f9 o (blkB e.ds), ys.set j ⟨gc, cc, blkB e.ds⟩, ks ++ [j], ⟨X9, T9, W9, N9, by rw [List.length_set]; exact I.yl, put_seeG I.X.M.ris hnd I.see hoj ⟨gc, cc, blkB e.ds⟩, fun p hp => (mput_mem hp).elim (fun e9 => by rw [e9]; exact hom) (I.mo p), kk_put I.X.M.ris hnd I.kk hoj (fun i => by rw [List.mem_append]; simp), List.nodup_append.2 ⟨I.kn, by simp, fun x hx y hy e9 => hk2 (by simp at hy; rw [← hy, ← e9]; exact hx)⟩, by rw [mput_len_new hlkn, List.length_append, I.kl]; rfl, by rw [mput_len_new hlkn]; omega, I.aw, I.ln, ls5, B92, T92⟩, by omega⟩
                  clear kc0 X9 T9 W9 N9 t9 Xc Tc Wc Nc rc Ic oc bc pL B92 T92 I
                  go_wp2_with fail
                  go_roundw
                  case rel => exact ⟨q + 1, by omega, by omega, by go_num, HI9.out⟩
                  case measure => simp [intOf]; omega
              · have hk2 : ¬ j ∈ ks := fun h => hkn (Or.inl h)
                have hm9 : m.length = 24 := by have := I.few; have : ¬ m.length < 24 := fun h => hkn (Or.inr h); omega
                have hlkn : lk m o = none := by
                  cases hq9 : lk m o with
                  | none => rfl
                  | some g => exact absurd ((I.kk j).2 ⟨o, hoj, by rw [hq9]; rfl⟩) hk2
                have hL9 : (24 : Int) ≤ L := by have := I.kl; have := HL.out; omega
                have hd2 : decide (j ∈ ks) = false := decide_eq_false hk2
                rw [hd2]
                go_region_held3 (fun w'' => w''.cell? ⟨tw, 3, none⟩ = some (.slice (some ⟨go, 0, none⟩) t co) ∧ w''.cell? ⟨go, j, none⟩ = some (.int .i64 (o : Nat)) ∧ w''.cell? ⟨ge, pe + q * 2 + 1, none⟩ = some (.slice e.da e.dn e.dc))
                  (first | exact k0 | exact ka | exact kb)
                  (first
                    | (go_at_call 28; refine (block7 e.da e.dn e.dc e.ds wr.drew PI.n dL).mono ?_; rintro e' wa ⟨ga, ca, rfl, oa, ba⟩; have Xa := dI.below ba; have Ta := dT.kp (Kp.below ba); have Ba := dB.trans (ba.mono dB.size); have ka := hS1 _ Ta Ba; have La : Lies wa (some ⟨ga, 0, none⟩) 512 ca (blkB e.ds) := Lies.owned oa; have hga : ¬ G ga := fun r => by { have h1 := hG9 ga r; have h3 := (oa.lt ga rfl).1; have h3 : wr.heap.size ≤ ga := h3; omega })
                    | (go_at_call 27; refine (Tx.big Xa ho h2 o hoo.1 hoo.2 (some ⟨ga, 0, none⟩) ca _ La (fun ad e => by { cases e; exact hga }) hlkn hm9).mono ?_; rintro e' wb ⟨rfl, qb⟩; have Tb' := Ta.kp (Kp.same qb.2); have Bb := Ba.trans (qb.2.below hGB Ba.size); have kb := hS1 _ Tb' Bb))
                clear k0 ka kb
                have sw := hB.size
                have sw2 := I.bw.size
                have Bb2 : Below wi.heap.size w wb := ((I.bw.trans (show Below wi.heap.size wr wr.drew from ⟨rfl, rfl, rfl, Nat.le_refl _, fun _ _ => rfl⟩)).trans (ba.mono (Nat.le_trans sw sw2))).trans (qb.2.below hGB (Nat.le_trans (Nat.le_trans sw sw2) ba.size))
                have dr9 : Turns (fun i => G i ∨ i = wm) wr wr.drew := Turns.drewN _ wr 1
                have Tt : Turns (fun i => G i ∨ i = wm) w wb := ((I.tr.trans dr9 (fun _ _ r => r)).trans (Below.turns ba (fun i => G i ∨ i = wm)) (fun _ _ r => r)).trans qb.2 (fun _ _ => Or.inl)
                have HI9 : Hid (FlE wi.heap.size w wb G d S k N jb st sz seq place free bm nd a fa tb wm sv last tw (.slice (some ⟨go, 0, none⟩) t co) (.slice (some ⟨gw, 0, none⟩) t cw) os xs (.slice (some ⟨gn, 0, none⟩) t cn) (.slice sa L sc) (q + 1)) := ⟨ns, m, f9, ys, ks, { I with
                  X := Xa.same qb
                  T := Tb'
                  W := ((I.W.kp (Kp.below (w' := wr.drew) ⟨rfl, rfl, rfl, Nat.le_refl _, fun _ _ => rfl⟩)).kp (Kp.below ba)).kp (Kp.same qb.2)
                  K := ((I.K.kp (Kp.below (w' := wr.drew) ⟨rfl, rfl, rfl, Nat.le_refl _, fun _ _ => rfl⟩)).kp (Kp.below ba)).kp (Kp.same qb.2)
                  bw := Bb2
                  tr := Tt }, by omega⟩
                clear Xa Ta Ba La ba oa dI dT dB dL I qb Tb'
                go_wp2_with (go_at_call 15; refine (num7 _ _).mono ?_; rintro e' wn ⟨rfl, hwn⟩; subst wn)
                go_roundw
                case rel => exact ⟨q + 1, by omega, by omega, by go_num, HI9.out⟩
                case measure => simp [intOf]; omega
        · have hend : ¬ (q : Int) < np ∨ ((q : Int) < np ∧ ¬ (q : Int) < 60) := by omega
          rcases hend with hd | ⟨hd1, hd2⟩
          · go_wp2
            refine bodyPost_ret (results_tmp2 rfl _ _ _) rfl ?_
            exact ⟨ns, m, f9, _, ys, _, ks, rfl, I⟩
          · go_wp2
            refine bodyPost_ret (results_tmp2 rfl _ _ _) rfl ?_
            exact ⟨ns, m, f9, _, ys, _, ks, rfl, I⟩
end Go.Proofs.YtnmdnglbpkpfdaaGreatDoor

/- A journal and what its device holds, through commits. -/
namespace Go.Proofs.YtnmdnglbpkpfdaaGreatDoor
open Go.RowKit Go.Maps
set_option maxRecDepth 100000
theorem burnt_fuse (S : DevS) : (burnt S).fuse = S.fuse - 1 := by
  unfold burnt
  split
  · omega
  · rfl
theorem hidS_fuse (S : DevS) (st sz place : Nat) (seq : Int) (f : Nat → List Int) (m : List (Nat × Nat)) : ∀ i, (hidS S st sz place seq f m i).fuse = S.fuse - (i + 1)
  | 0 => burnt_fuse S
  | i + 1 => by
    show (burnt (hidS S st sz place seq f m i)).fuse = _
    rw [burnt_fuse, hidS_fuse S st sz place seq f m i]
    omega
theorem comS_fuse (S : DevS) (st sz place : Nat) (seq : Int) (f : Nat → List Int) (m : List (Nat × Nat)) : (comS S st sz place seq f m).fuse = S.fuse - (m.length + 4) := by
  show (burnt (wrote (burnt (flushed (burnt (hidS S st sz place seq f m m.length)))) _ _)).fuse = _
  rw [burnt_fuse]
  show (burnt (flushed (burnt (hidS S st sz place seq f m m.length)))).fuse - 1 = _
  rw [burnt_fuse]
  show (burnt (hidS S st sz place seq f m m.length)).fuse - 1 - 1 = _
  rw [burnt_fuse, hidS_fuse]
  omega
theorem homeS_fuse (S : DevS) (fa : Nat → List Int) (a : List (Nat × Nat)) : ∀ i, (homeS S fa a i).fuse = S.fuse - i
  | 0 => rfl
  | i + 1 => by
    show (burnt (homeS S fa a i)).fuse = _
    rw [burnt_fuse, homeS_fuse S fa a i]
    omega
theorem ckS_fuse (S : DevS) (fa : Nat → List Int) (a : List (Nat × Nat)) (st : Nat) (seq : Int) (place : Nat) : (ckS S fa a st seq place).fuse = S.fuse - (a.length + 3) := by
  show (burnt (wrote (burnt (flushed (burnt (homeS S fa a a.length)))) _ _)).fuse = _
  rw [burnt_fuse]
  show (burnt (flushed (burnt (homeS S fa a a.length)))).fuse - 1 = _
  rw [burnt_fuse]
  show (burnt (homeS S fa a a.length)).fuse - 1 - 1 = _
  rw [burnt_fuse, homeS_fuse]
  omega
theorem comS_lasts {S : DevS} {st sz place : Nat} {seq : Int} {f : Nat → List Int} {m : List (Nat × Nat)} {n : Nat} (h : Lasts S (m.length + 4 + n)) : Lasts (comS S st sz place seq f m) n := by
  have h3 : Lasts (hidS S st sz place seq f m m.length) (n + 3) := hidS_lasts m.length (n + 3) (by rw [show m.length + 1 + (n + 3) = m.length + 4 + n by omega]; exact h)
  exact ((h3.burnt.flushed).putL _ _ _ _ _).burnt.flushed
/-- A journal, and what its device holds. -/
structure JS (w : World) (d : Nat) (S : DevS) (k N : Nat) (G : Nat → Prop) (jb st sz seq place : Nat) (free : Int) (bm nd : Nat) (a : List (Nat × Nat)) (fa : Nat → List Int) (T : List TxL) (seq0 place0 : Nat) : Prop where
  J : Jn w d S k N G jb st sz (seq : Int) place free bm nd a fa
  L : Lg S k st sz seq place free T seq0 place0
  C : Cont a fa T
  O : OutA k st sz a
  nb : (nd : Int) + free ≤ sz
theorem ovl_pos {k st sz : Nat} {T : List TxL} (hne : T ≠ []) (hok : ∀ x ∈ T, TxOk k st sz x) : ∃ b, (ovl T b).isSome = true := by
  induction T using snoc_ind with
  | h0 => exact absurd rfl hne
  | h1 T x _ =>
    have hx := (hok x (by simp)).ne
    refine ⟨(x[0]'hx).1, ?_⟩
    rw [ovl_snoc]
    have : (txAt x (x[0]'hx).1).isSome = true := by
      unfold txAt
      rw [Option.isSome_map, List.find?_isSome]
      exact ⟨x[0]'hx, List.getElem_mem hx, by simp⟩
    obtain ⟨v, hv⟩ := Option.isSome_iff_exists.1 this
    rw [hv]
    rfl
theorem Cont.pos {k st sz : Nat} {a : List (Nat × Nat)} {fa : Nat → List Int} {T : List TxL} (h : Cont a fa T) (hne : T ≠ []) (hok : ∀ x ∈ T, TxOk k st sz x) : 0 < a.length := by
  obtain ⟨b, hb⟩ := ovl_pos hne hok
  rw [← h b, Option.isSome_map] at hb
  cases a with
  | nil => simp [lk] at hb
  | cons => simp
/-- What is seen of a journal with no open transaction. -/
theorem sees_ovl {S : DevS} {a : List (Nat × Nat)} {fa f : Nat → List Int} {T : List TxL} (h : Cont a fa T) (o : Nat) : seesF S [] f a fa o = (ovl T o).getD (rdB S o) := by
  unfold seesF
  rw [← h o]
  cases e : lk a o <;> simp [lk]
theorem txM_at {f : Nat → List Int} {m : List (Nat × Nat)} (b : Nat) : (lk m b).map (fun _ => f b) = txAt (txM f m) b := by
  unfold txAt txM
  induction m with
  | nil => rfl
  | cons p m ih =>
    rw [lk_cons, List.map_cons, List.find?_cons]
    by_cases e : p.1 = b
    · simp [e]
    · simp only [if_neg e]
      rw [ih]
      have : (p.1 == b) = false := by simp [e]
      rw [this]
theorem TxOk.ofM {w : World} {k st sz ns wm : Nat} {f : Nat → List Int} {m : List (Nat × Nat)} (hM : Mp w wm ns m) (hV : Vals w f m) (h0 : 0 < m.length) (h24 : m.length ≤ 24) (ho : ∀ p ∈ m, p.1 < k ∧ (p.1 < st ∨ st + sz ≤ p.1)) : TxOk k st sz (txM f m) := by
  refine ⟨by rw [txM_len]; exact h0, by rw [txM_len]; exact h24, ?_, fun p hp => ?_, fun p hp => ?_⟩
  · unfold txM
    rw [List.pairwise_map]
    exact hM.ris
  · obtain ⟨r, hr, rfl⟩ := List.mem_map.1 hp
    exact ho r hr
  · obtain ⟨r, hr, rfl⟩ := List.mem_map.1 hp
    exact (hV r hr).2
/-- How many operations a Commit takes. -/
def costC (m a : List (Nat × Nat)) (free : Int) : Nat := if m = [] then 0 else m.length + 4 + (if free < (m.length : Int) + 2 then a.length + 3 else 0)
/-- What a Commit leaves. -/
structure CmR (w w' : World) (d : Nat) (S : DevS) (k N : Nat) (G : Nat → Prop) (jb st sz seq : Nat) (free : Int) (bm : Nat) (a : List (Nat × Nat)) (fa : Nat → List Int) (tb : Nat) (m : List (Nat × Nat)) (f : Nat → List Int) : Prop where
  td : Td w' tb
  tr : Turns (fun i => G i ∨ i = bm ∨ i = jb ∨ i = tb) w w'
  ex : ∃ (S' : DevS) (N' : Nat) (G' : Nat → Prop) (seq' place' : Nat) (free' : Int) (bm' nd' : Nat) (a' : List (Nat × Nat)) (fa' : Nat → List Int) (T' : List TxL) (seq0' place0' : Nat), JS w' d S' k N' G' jb st sz seq' place' free' bm' nd' a' fa' T' seq0' place0' ∧ (∀ i, G' i → G i ∨ w.heap.size ≤ i) ∧ (bm' = bm ∨ w.heap.size ≤ bm') ∧ N' ≤ N + 5000 ∧ seq ≤ seq' ∧ seq' ≤ seq + 1 ∧ S'.off = false ∧ S'.fuse = S.fuse - costC m a free ∧ (∀ o, o < k → (o < st ∨ st + sz ≤ o) → seesF S' [] fa' a' fa' o = seesF S m f a fa o)
end Go.Proofs.YtnmdnglbpkpfdaaGreatDoor

/- Commit by its contract: what the device holds behind it, and what it cost. -/
namespace Go.Proofs.YtnmdnglbpkpfdaaGreatDoor
open Go.RowKit Go.Maps
set_option maxRecDepth 100000
theorem commitG {w : World} {d : Nat} {S : DevS} {k N : Nat} {G : Nat → Prop} {jb st sz seq place : Nat} {free : Int} {bm nd : Nat} {a : List (Nat × Nat)} {fa : Nat → List Int} {tb wm ns : Nat} {m : List (Nat × Nat)} {f : Nat → List Int} {sv : Value} {last : Int} {T : List TxL} {seq0 place0 : Nat} (X : Tx w d S k N G jb st sz (seq : Int) place free bm nd a fa tb wm ns m f sv last) (L : Lg S k st sz seq place free T seq0 place0) (C : Cont a fa T) (O : OutA k st sz a) (nb : (nd : Int) + free ≤ sz) (hmo : ∀ p ∈ m, p.1 < k ∧ (p.1 < st ∨ st + sz ≤ p.1)) (h24 : m.length ≤ 24) (hS : Lasts S (costC m a free)) (hN : N ≤ 900000000) (hs : seq ≤ 4611686018427387903) :
    Calls Tryz.prog 14 #[.pointer (some ⟨tb, 0, none⟩)] w fun e w' => e = .returned (.int .i64 0) ∧ CmR w w' d S k N G jb st sz seq free bm a fa tb m f := by
  have h1 := L.s1
  have h2 := L.s2
  have hk := L.good.top
  have hpl := L.p1
  have hpl2 : place < sz - 1 := by rw [hpl]; exact plEnd_lt T L.p0
  have hf0 := L.f0
  have hfr := L.fr
  by_cases hm0 : m = []
  · subst hm0
    refine (commit_none X.D X.T X.J X.M X.tj X.tm X.jm X.gj X.gt X.gm hS.on).mono ?_
    rintro e w' ⟨rfl, T', J', D', t'⟩
    have nv : ∀ (g : Nat) (l : List Int), w.heap[g]? = some (bl l) → ¬ (g = tb ∨ g = jb) := fun g l hg e => by
      rcases e with rfl | rfl
      · have := X.T; unfold Tb at this; rw [hg] at this; simp [bl] at this
      · have := X.J; unfold Jb at this; rw [hg] at this; simp [bl] at this
    refine ⟨rfl, T', t'.mono (fun i _ r => ?_), S, N, G, seq, place, free, bm, nd, a, fa, T, seq0, place0, ⟨⟨D', J', X.A.turns t' (fun r => ?_), X.VA.turns t' (fun p hp r => ?_), X.gj, X.ga, X.gva, X.ja⟩, L, C, O, nb⟩, fun i hi => Or.inl hi, Or.inl rfl, by omega, by omega, by omega, hS.on, by simp [costC], fun o _ _ => ?_⟩
    · rcases r with r | r | r
      · exact Or.inl r
      · exact Or.inr (Or.inr (Or.inr r))
      · exact Or.inr (Or.inr (Or.inl r))
    · rcases r with r | r | r
      · exact X.ga r
      · exact X.ta r.symm
      · exact X.ja r.symm
    · exact r.elim (X.gva p hp) (nv _ _ (X.VA p hp).1)
    · simp [seesF, lk]
  · have hl1 : 1 ≤ m.length := by cases m with | nil => exact absurd rfl hm0 | cons => simp
    have hLa := O.low hk
    have hLm : Low m := fun p hp => by have := (hmo p hp).1; omega
    have hx := TxOk.ofM (k := k) (st := st) (sz := sz) X.M X.V (by omega) h24 hmo
    have hc : costC m a free = m.length + 4 + (if free < (m.length : Int) + 2 then a.length + 3 else 0) := by unfold costC; rw [if_neg hm0]
    by_cases hfull : free < (m.length : Int) + 2
    · rw [hc, if_pos hfull] at hS
      have hne : T ≠ [] := fun e => by subst e; simp [strm] at hfr; omega
      have ha0 := C.pos hne L.ok
      refine (txCommit_ck X hl1 h24 hLa hLm hfull ha0 (fun p hp => (O p hp).1) h1 h2 hk (by rw [show a.length + 3 + (m.length + 4) = m.length + 4 + (a.length + 3) by omega]; exact hS) (by omega) (by omega) (by omega)).mono ?_
      rintro e w' ⟨rfl, T', t', G', bm9, lb9, J', hG'⟩
      have Lc := L.ck X.A.ris O (fun p hp => (X.VA p hp).2)
      have Lm := Lc.commit hx (by omega) (by omega)
      have hla := low_len X.A.ris hLa
      have cA := rdB_ck (seq := (seq : Int)) (place := place) L.good (show st < k by omega) X.A.ris (fun p hp => (O p hp).1) (fun p hp => (X.VA p hp).2)
      have cB := rdB_coms (S := ckS S fa a st seq place) (place := place) (seq := (seq : Int)) (f := f) (m := m) cA.2.1 (by omega) h2 h24 (fun p hp => (X.V p hp).2) (by omega)
      have C9 : Cont (mmerge [] m) (mergeF m f (fun _ => [])) ([] ++ [txM f m]) := Cont.merge (fun b => rfl) List.Pairwise.nil X.M.ris (fun b => txM_at b)
      refine ⟨rfl, T', t'.mono (fun i _ r => ?_), comS (ckS S fa a st seq place) st sz place seq f m, N + a.length + 1 + m.length + 2, G', seq + 1, (place + m.length + 2) % (sz - 1), (sz : Int) - 1 - (m.length + 2), bm9, 0 + m.length, mmerge [] m, mergeF m f (fun _ => []), [] ++ [txM f m], seq, place, ⟨J', Lm, C9, ?_, by omega⟩, hG', Or.inr lb9, by omega, by omega, by omega, ?_, ?_, fun o ho1 ho2 => ?_⟩
      · exact r.elim Or.inl (fun r => Or.inr (Or.inr r))
      · exact OutA.merge (fun p hp => by cases hp) hmo
      · exact (comS_lasts (n := 0) (ckS_lasts (by rw [show a.length + 3 + (m.length + 4 + 0) = m.length + 4 + (a.length + 3) by omega]; exact hS))).on
      · rw [comS_fuse, ckS_fuse, hc, if_pos hfull]
        omega
      · rw [sees_ovl C9 o, List.nil_append]
        have e1 : ovl [txM f m] o = (lk m o).map (fun _ => f o) := by
          have := ovl_snoc [] (txM f m) o
          rw [List.nil_append] at this
          rw [this, ← txM_at]
          simp [ovl_nil]
        rw [e1, cB.2.1 o (fun j _ e => by have := atN_in (st := st) (place := place) (i := j) (show 2 ≤ sz by omega); omega), cA.1, if_neg (by omega)]
        unfold seesF
        cases q1 : lk m o with
        | some g => simp
        | none =>
          cases q2 : lk a o with
          | some g =>
            have : o ∈ a.map (·.1) := lk_keys.1 (by rw [q2]; rfl)
            simp [this]
          | none =>
            have : ¬ o ∈ a.map (·.1) := fun q => by have := lk_keys.2 q; rw [q2] at this; cases this
            simp [this]
    · rw [hc, if_neg hfull] at hS
      refine (txCommit_ok X hl1 h24 hLa hLm (by omega) (by omega) h1 h2 hk hS (by omega) (by omega) (by omega) (by omega)).mono ?_
      rintro e w' ⟨rfl, T', t', G', J', hG'⟩
      have Lm := L.commit hx (by omega) (by omega)
      have cB := rdB_coms (S := S) (place := place) (seq := (seq : Int)) (f := f) (m := m) L.good (by omega) h2 h24 (fun p hp => (X.V p hp).2) (by omega)
      have C9 := C.merge X.A.ris X.M.ris (fun b => txM_at (f := f) (m := m) b)
      refine ⟨rfl, T', t', comS S st sz place seq f m, N + m.length + 2, G', seq + 1, (place + m.length + 2) % (sz - 1), free - (m.length + 2), bm, nd + m.length, mmerge a m, mergeF m f fa, T ++ [txM f m], seq0, place0, ⟨J', Lm, C9, O.merge hmo, by omega⟩, hG', Or.inl rfl, by omega, by omega, by omega, ?_, ?_, fun o ho1 ho2 => ?_⟩
      · exact (comS_lasts (n := 0) hS).on
      · rw [comS_fuse, hc, if_neg hfull]
      · rw [sees_ovl C9 o, ovl_snoc, ← txM_at, cB.2.1 o (fun j _ e => by have := atN_in (st := st) (place := place) (i := j) (show 2 ≤ sz by omega); omega), ← C o]
        unfold seesF
        cases q1 : lk m o with
        | some g => simp
        | none => cases q2 : lk a o <;> simp
end Go.Proofs.YtnmdnglbpkpfdaaGreatDoor

/- JournalSaves: back to a save. -/
namespace Go.Proofs.YtnmdnglbpkpfdaaGreatDoor
open Go.RowKit Go.Maps
set_option maxRecDepth 100000
theorem stC_take (l : List St) : ∀ a : Nat, (stC l).take (a * 3) = stC (l.take a) := by
  induction l with
  | nil => intro a; simp [stC]
  | cons s l ih =>
    intro a
    cases a with
    | zero => simp [stC]
    | succ a =>
      have := ih a
      rw [show (a + 1) * 3 = a * 3 + 1 + 1 + 1 by omega]
      simp only [stC, List.flatMap_cons, St.cells, List.take_succ_cons, List.cons_append, List.nil_append] at *
      rw [this]
/-- The first ones of a row of one's own. -/
theorem own_take {w : World} {base e size g cap n a : Nat} {xs : List Value} (h : w.ownsRow base e size (.slice (some ⟨g, 0, none⟩) n cap) n xs) (ha : a ≤ n) : w.ownsRow base e size (.slice (some ⟨g, 0, none⟩) a cap) a (xs.take (a * size)) := by
  obtain ⟨h1, h2⟩ := h
  have hm : a * size ≤ n * size := Nat.mul_le_mul_right _ ha
  rcases h2 with ⟨q, _⟩ | ⟨g', cap', cur, hv, hg, hh, hn, hcap, hsz, htake⟩
  · cases q
  · cases hv
    refine ⟨by rw [List.length_take, h1, Nat.min_eq_left hm], .inr ⟨g, cap, cur, rfl, hg, hh, by omega, hcap, hsz, ?_⟩⟩
    rw [← htake, List.take_take, Nat.min_eq_left hm]
theorem SvY.cut {B : Nat} {w w3 w4 : World} {G : Nat → Prop} {jb bm tb db q N K : Nat} {wv : Value} {gs cs la wm ns : Nat} {m : List (Nat × Nat)} {f : Nat → List Int} {sv sv' : Value} {l : List SvI} {s : St} {ss : List St} {wm' j : Nat} {eI : SvI} {t : St} {v' u' : Value} {tw : Nat} {ov : Value} {os : List Nat} {ys : List It}
    (h : SvY B w G jb bm tb db q N K wv (.slice (some ⟨gs, 0, none⟩) ss.length cs) la wm ns m f sv l s ss) (k : Kp G w w3) (hi : l[j]? = some eI) (ht : ss[j]? = some t)
    (X3 : Tx w3 db F40 40 N G jb 2 30 1 0 29 bm 0 [] (fun _ => []) tb wm' eI.hn eI.m eI.f sv' (la : Int)) (V3 : Svs w3 G tb wm' sv' (l.take (j + 1)) la) (lwm : w.heap.size ≤ wm') (ob : sv'.ownBlock = sv.ownBlock) (hB : B ≤ w.heap.size)
    (xv : Wt w3 G v' t.xs) (nu : Ns w3 G u' (eI.m.map (·.1))) (fv : ∀ b, v'.ownBlock = some b → w.heap.size ≤ b) (T : Tn w3 G tw db ov wv os ys) (hw : ∀ b, wv.ownBlock = some b → b < w.heap.size)
    (u : Turns (fun i => i = q) w3 w4) (b4 : w4.heap[q]? = some (.cells #[.int .i64 0, v', u'] 54)) :
    SvY B w4 G jb bm tb db q N (K + 1) wv (.slice (some ⟨gs, 0, none⟩) (j + 1) cs) la wm' eI.hn eI.m eI.f sv' (l.take (j + 1)) ⟨0, v', u', t.xs⟩ (ss.take (j + 1)) ∧ StOk w4 G ⟨0, v', u', t.xs⟩ eI.m eI.f ∧ Tn w4 G tw db ov wv os ys := by
  have r3 := k.row h.row (by decide) h.gr
  have box3 := k.block _ _ _ _ h.gq h.box (by decide)
  have hkn := h.kn
  have hjl : j < ss.length := (List.getElem?_eq_some_iff.1 ht).1
  obtain ⟨a1, a2, a3, a4⟩ := h.all j t eI ht hi
  have So3 : StOk w3 G ⟨0, v', u', t.xs⟩ eI.m eI.f := ⟨xv, a2.len, nu, a2.see⟩
  obtain ⟨gv, cv, hv⟩ := xv.form a2.len
  have lgv := fv gv (by rw [hv]; rfl)
  have hlen : (ss.take (j + 1)).length = j + 1 := by rw [List.length_take]; omega
  refine ⟨⟨X3.turn1 box3 (by decide) (by decide) h.gq u, V3.turn1 box3 (by decide) (by decide) (by decide) (by decide) u, b4, h.gq, a3, ?_, h.gr, ?_, fun i t' e ht' he => ?_, fun t' ht' e => ?_, fun e => ?_, h.qs, Nat.le_trans hB lwm, fun b hb => h.lv b (by rw [← ob]; exact hb), fun b hb => Nat.le_trans hB (fv b hb), h.lr, ?_⟩, So3.turnQ box3 u, T.turnQ box3 u⟩
  · rw [hlen, ← stC_take]
    exact own_turns (own_take r3 (by omega)) u (fun b hb e => h.qs (by rw [← e]; exact hb))
  · have := h.len
    rw [List.length_take, List.length_take]; omega
  · have hij : i < j + 1 := by have := (List.getElem?_eq_some_iff.1 ht').1; omega
    rw [List.getElem?_take_of_lt hij] at ht' he
    obtain ⟨c1, c2, c3, c4⟩ := h.all i t' e ht' he
    exact ⟨c1, (c2.kp k).turnQ box3 u, c3, by omega⟩
  · have hm : t' ∈ ss := List.mem_of_mem_take ht'
    obtain ⟨i, hil, hit⟩ := List.getElem_of_mem hm
    have hit' : ss[i]? = some t' := by rw [List.getElem?_eq_getElem hil, hit]
    have hil2 : i < l.length := by rw [← h.len]; exact hil
    obtain ⟨c1, c2, c3, c4⟩ := h.all i t' l[i] hit' (List.getElem?_eq_getElem hil2)
    have e' : t'.v.ownBlock = some gv := by rw [e]; show v'.ownBlock = _; rw [hv]; rfl
    have := (c2.x.row.lt gv e').2
    omega
  · have e' : wv.ownBlock = some gv := by rw [e]; show v'.ownBlock = _; rw [hv]; rfl
    have := hw gv e'
    omega
  · rw [List.length_take]; omega
end Go.Proofs.YtnmdnglbpkpfdaaGreatDoor

/- JournalSaves: edits; what its loop holds. -/
namespace Go.Proofs.YtnmdnglbpkpfdaaGreatDoor
open Go.RowKit Go.Maps
set_option maxRecDepth 100000
theorem StOk.at {w : World} {G : Nat → Prop} {s : St} {m : List (Nat × Nat)} {f : Nat → List Int} (h : StOk w G s m f) {gn cn j : Nat} {x : It} (hv : s.v = .slice (some ⟨gn, 0, none⟩) 10 cn) (hj : j < 10) (hx : s.xs[j]? = some x) : w.cell? ⟨gn, j, none⟩ = some (.slice (some ⟨x.g, 0, none⟩) 512 x.cap) := by
  have r := h.x.row
  rw [h.len, hv] at r
  rw [r.cellAt j (by omega), List.getElem?_map, hx]
  rfl
theorem Jn.below {w w' : World} {d : Nat} {S : DevS} {k N : Nat} {G : Nat → Prop} {jb st sz : Nat} {seq : Int} {place : Nat} {free : Int} {bm nd : Nat} {a : List (Nat × Nat)} {fa : Nat → List Int} (h : Jn w d S k N G jb st sz seq place free bm nd a fa) (b : Below w.heap.size w w') : Jn w' d S k N G jb st sz seq place free bm nd a fa :=
  ⟨h.D.below b, (b.block jb (heap_lt h.J)).trans h.J, h.A.turns (Below.turns b (fun _ => False)) id, h.VA.below b, h.gj, h.ga, h.gva, h.ja⟩
theorem Jn.turn1 {w w' : World} {d : Nat} {S : DevS} {k N : Nat} {G : Nat → Prop} {jb st sz : Nat} {seq : Int} {place : Nat} {free : Int} {bm nd : Nat} {a : List (Nat × Nat)} {fa : Nat → List Int} (h : Jn w d S k N G jb st sz seq place free bm nd a fa) {g : Nat} {cs : Array Value} {t : Nat} {fz : Nat × Nat} (hg : w.heap[g]? = some (.cells cs t fz)) (ht : t ∉ jty) (hu : t ≠ 5) (gG : ¬ G g) (u : Turns (fun i => i = g) w w') : Jn w' d S k N G jb st sz seq place free bm nd a fa := by
  refine ⟨h.D.turns u (fun i hi e => gG (e ▸ hi)), (u.block jb (heap_lt h.J) (fun e => jty_jb h.J hg ht e.symm)).trans h.J, h.A.turns u (fun e => mp_cells h.A hg e.symm), h.VA.turns u (fun p hp e => ?_), h.gj, h.ga, h.gva, h.ja⟩
  have h1 := (h.VA p hp).1
  rw [e, hg] at h1
  simp [bl] at h1
  exact hu h1.2.1
theorem SvY.more {B : Nat} {w : World} {G : Nat → Prop} {jb bm tb db q N K : Nat} {wv svv : Value} {la wm ns : Nat} {m : List (Nat × Nat)} {f : Nat → List Int} {sv : Value} {l : List SvI} {s : St} {ss : List St} (h : SvY B w G jb bm tb db q N K wv svv la wm ns m f sv l s ss) : SvY B w G jb bm tb db q N (K + 1) wv svv la wm ns m f sv l s ss :=
  h.kept ⟨Nat.le_refl _, fun _ _ _ _ _ hx _ => hx⟩ h.X h.V h.mo h.lw h.lv (by omega) (by have := h.kn; omega)
end Go.Proofs.YtnmdnglbpkpfdaaGreatDoor

/- Check of a journal with nothing away; the parts of JournalSteps. -/
namespace Go.Proofs.YtnmdnglbpkpfdaaGreatDoor
open Go.RowKit Go.Maps
set_option maxRecDepth 100000
set_option maxHeartbeats 1000000 in
theorem check_none {w : World} {d : Nat} {S : DevS} {k N : Nat} {G : Nat → Prop} {jb st sz : Nat} {seq : Int} {place : Nat} {free : Int} {bm nd : Nat} {fa : Nat → List Int} (h : Jn w d S k N G jb st sz seq place free bm nd [] fa) (ho : S.off = false) :
    Calls Tryz.prog 23 #[.pointer (some ⟨jb, 0, none⟩)] w fun e w' => e = .returned (.int .i64 0) ∧ Same0 w w' d S k N G := by
  obtain ⟨c0, c1, c2, c3, c4, c5, c6, c7, c8, fz⟩ := h.J.cells
  go_enter Tryz.func23, Tryz.ntmps23
  go_wp2_with fail
  refine (begun_any h.D).mono ?_
  rintro e w1 ⟨ev, rfl, hev, k1, q1⟩
  have he : begE S = 0 := by unfold begE; rw [if_neg (by simp [ho])]
  rw [he] at hev
  obtain ⟨_, rfl⟩ := hev.resolve_right (fun h => h.1 rfl)
  have J1 : Jb w1 jb d st sz seq place free bm none := (q1.2.block jb (heap_lt h.J) h.gj).trans h.J
  have A1 := h.A.turns q1.2 h.ga
  clear c0 c1 c2 c3 c4 c5 c6 c7 c8 fz
  go_wp2_with fail
  refine (checkpoint_none J1 A1).mono ?_
  rintro e wn ⟨rfl, hwn⟩
  subst wn
  go_wp2_with fail
  refine (met_ok k1).mono ?_
  rintro e w2 ⟨rfl, b2⟩
  go_wp2
  go_ret
  exact ⟨rfl, q1.1.below b2, q1.2.trans (Below.turns b2 (fun _ => False)) (fun _ _ r => r.elim)⟩
theorem Jn.same {w w' : World} {d : Nat} {S S' : DevS} {k N : Nat} {G : Nat → Prop} {jb st sz : Nat} {seq : Int} {place : Nat} {free : Int} {bm nd : Nat} {a : List (Nat × Nat)} {fa : Nat → List Int} (h : Jn w d S k N G jb st sz seq place free bm nd a fa) (q : Same0 w w' d S' k N G) : Jn w' d S' k N G jb st sz seq place free bm nd a fa :=
  ⟨q.1, (q.2.block jb (heap_lt h.J) h.gj).trans h.J, h.A.turns q.2 h.ga, h.VA.turns q.2 h.gva, h.gj, h.ga, h.gva, h.ja⟩
theorem Tx.armed {w w' : World} {d : Nat} {S S' : DevS} {k N : Nat} {G : Nat → Prop} {jb st sz : Nat} {seq : Int} {place : Nat} {free : Int} {bm nd : Nat} {a : List (Nat × Nat)} {fa : Nat → List Int} {tb wm ns : Nat} {m : List (Nat × Nat)} {f : Nat → List Int} {sv : Value} {last : Int} (h : Tx w d S k N G jb st sz seq place free bm nd a fa tb wm ns m f sv last) (q : Same0 w w' d S' k N G) : Tx w' d S' k N G jb st sz seq place free bm nd a fa tb wm ns m f sv last :=
  { h with
    D := q.1
    J := (q.2.block jb (heap_lt h.J) h.gj).trans h.J
    T := (q.2.block tb (heap_lt h.T) h.gt).trans h.T
    A := h.A.turns q.2 h.ga
    VA := h.VA.turns q.2 h.gva
    M := h.M.turns q.2 h.gm
    V := h.V.turns q.2 h.gv }
theorem Tg.setWant {w : World} {G : Nat → Prop} {tw db st sz : Nat} {ov wv nv : Value} {os : List Nat} {xs ys : List It} (T : Tg w G tw db st sz ov wv os xs) (W : Wt w G nv ys) : Tg (w.setCell ⟨tw, 4, none⟩ nv) G tw db st sz ov nv os ys ∧ Turns (fun i => i = tw) w (w.setCell ⟨tw, 4, none⟩ nv) := by
  have u := Turns.cell w tw 4 nv
  exact ⟨⟨heap_setCell_same _ tw 4 _ _ _ T.box, T.o.turn1 T.box (by decide) u, W.turn1 T.box (by decide) (by decide) u, T.gt⟩, u⟩
theorem armed_on {S : DevS} {n : Nat} (ho : S.off = false) : armed S (n : Nat) = { S with fuse := n } := by
  unfold armed
  rw [if_neg (by omega), if_neg (by simp [ho])]
  rfl
/-- What a transaction of a fill leaves behind its Commit. -/
theorem Kp.commit {w w' : World} {G : Nat → Prop} {d : Nat} {S : DevS} {k N jb st sz : Nat} {seq : Int} {place : Nat} {free : Int} {bm nd : Nat} {a : List (Nat × Nat)} {fa : Nat → List Int} {tb wm ns : Nat} {m : List (Nat × Nat)} {f : Nat → List Int} {sv : Value} {last : Int} (X : Tx w d S k N G jb st sz seq place free bm nd a fa tb wm ns m f sv last) (t : Turns (fun i => G i ∨ i = bm ∨ i = jb ∨ i = tb) w w') : Kp G w w' := Kp.turns t (fun x cs ty fz g hx ht e => by
  rcases e with e | e | e | e
  · exact g e
  · exact mp_cells X.A hx e
  · exact jty_jb X.J hx ht e
  · exact jty_tb X.T hx ht e)
/-- A list of puts that came in. -/
structure TxIn where
  pa : Option Addr
  pn : Nat
  pc : Nat
  ps : List Pt
structure TxsLies (w : World) (ao : Option Addr) (n : Nat) (ts : List TxIn) : Prop where
  hlen : ts.length = n
  hcells : ∀ (j : Nat) t, ts[j]? = some t → (PtLies w t.pa t.pn t.ps ∧ t.pn ≤ 140737488355328) ∧ ∃ g p, ao = some ⟨g, p, none⟩ ∧ w.cell? ⟨g, p + j, none⟩ = some (.slice t.pa t.pn t.pc)
end Go.Proofs.YtnmdnglbpkpfdaaGreatDoor
