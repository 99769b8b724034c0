/- JournalSteps. -/
import Derived.Test.YtnmdnglbpkpfdaaGreatDoorPk25
namespace Go.Proofs.YtnmdnglbpkpfdaaGreatDoor
open Go.RowKit Go.Maps
set_option maxRecDepth 100000

set_option maxHeartbeats 4000000 in
theorem steps_any (er : Nat → Addr) (w : World) (hE : Errs w er) (n0 st0 sz0 : Int) (ao : Option Addr) (nt ct : Nat) (ts : List TxIn) (hnt : nt ≤ 140737488355328) (hTs : TxsLies w ao nt ts) (bo : Option Addr) (np pc : Nat) (ps : List Pt) (hnp : np ≤ 140737488355328) (hP : PtLies w bo np ps) :
    Calls Tryz.prog 3 #[.int .i64 n0, .int .i64 st0, .int .i64 sz0, .slice ao nt ct, .slice bo np pc] w fun e w' => e = .returned (.bool true) ∧ Below w.heap.size w w' := by
  go_enter Tryz.func3, Tryz.ntmps3
  go_wp2_with fail
  refine (head7 er w hE).mono ?_
  rintro e w1 ⟨rfl, B1⟩
  go_wp2_with fail
  refine (town_any w1 n0 st0 sz0).mono ?_
  rintro e w2 ⟨k, st, sz, tw, db, N, F, ov, wv, xs, hsh, rfl, D2, hN, hF, T2, hxl, hxz, ltw, lov, b2⟩
  have s1 := B1.size
  have B2 : Below w.heap.size w w2 := B1.trans (b2.mono s1)
  have hEF : ∀ w', Turns F w2 w' → Errs w' er := fun w' t => hE.below (B2.trans (t.below (fun i r => by have := hF i r; omega) B2.size)) (Nat.le_refl _)
  have hfg := fresh_good k (by omega) (by omega)
  go_wp2_with fail
  refine (openG T2 D2 (Lg.fmt hfg (by omega) (by omega)) (FK_calm k st sz) (by omega) (by omega) hEF).mono ?_
  rintro e w3 ⟨jb, bm, rfl, lj, lb, hO⟩
  have s2 := B2.size
  have sb2 := b2.size
  have hos : ∀ o ∈ og st sz k, o < k ∧ (o < st ∨ st + sz ≤ o) := fun o ho => og_in ho
  have HI : Hid (StE w w3 tw db k st sz ov (og st sz k) jb 0) := by
    obtain ⟨⟨S', N', G, J, L, C, hN', hrd, hG, T3⟩, t3⟩ := hO
    have B3 := B2.trans (t3.below (fun i r => by have := hF i r; omega) s2)
    refine ⟨G, ⟨S', N', 1, 0, (sz : Int) - 1, bm, 0, [], fun _ => [], [], 1, 0, wv, xs, ⟨J, L, fun b => rfl, (fun p hp => by cases hp), by omega⟩, C, T3, hxl, fun i o x ho hx => ?_, by omega, by omega, by omega, B3⟩, fun i r => (hG i r).elim (fun r => by have := hF i r; omega) (fun r => by omega), by omega, by omega⟩
    have h3 := hos o (List.mem_of_getElem? ho)
    rw [hxz x (List.mem_of_getElem? hx)]
    simp only [seesF, lk]
    rw [hrd o h3.1 h3.2]
    show zB = rdB (FK k st sz) o
    unfold FK
    rw [rdB_fmt hfg (by omega) (by omega), if_neg (by omega), if_neg (by omega), rdB_zeros k o h3.1]
  clear hO T2 D2 hEF hF
  obtain ⟨n, hol⟩ : ∃ n, (og st sz k).length = n := ⟨_, rfl⟩
  have hn : 0 < n ∧ n ≤ 4096 := by
    have h1 := og_pos (st := st) (sz := sz) (k := k) (by omega) (by omega)
    have h2 := og_le st sz k
    omega
  have hnd := og_nodup st sz k
  have Hsh : Hid (30 ≤ k ∧ k ≤ 200 ∧ 27 ≤ sz ∧ sz ≤ k - 1 ∧ st + sz ≤ k) := hsh
  generalize og st sz k = os at *
  clear hsh hfg hxl hxz
  go_wp2_with fail
  go_loopw [17] (fun i wr => ∃ t : Nat, t ≤ nt ∧ t ≤ 20 ∧ i = .int .i64 t ∧ StE w wr tw db k st sz ov os jb t) (fun i _ => 20 - (intOf i).toNat)
  case atStart => exact ⟨0, Nat.zero_le _, Nat.zero_le _, rfl, HI.out⟩
  case round =>
    clear HI
    obtain ⟨t, ht1, ht2, rfl, G, ⟨S, N1, seq, place, free, bm, nd, a, fa, T, seq0, place0, wv1, xs1, JJ, C, Tr, hxl, hsee, hN1, hsq, lbm, Br⟩, gB, ljb, ltw2⟩ := hrel
    have hnti : (nt : Int) ≤ 140737488355328 := by omega
    by_cases hlt : t < nt ∧ t < 20
    · obtain ⟨hl1, hl2⟩ := hlt
      have hi1 : (t : Int) < nt := by omega
      have hi2 : (t : Int) < 20 := by omega
      obtain ⟨x, hx⟩ : ∃ x, ts[t]? = some x := ⟨_, List.getElem?_eq_getElem (by rw [hTs.hlen]; exact hl1)⟩
      obtain ⟨⟨hPx, hpx⟩, ge, pe, rfl, hc⟩ := hTs.hcells t x hx
      have HC : Hid (w.cell? ⟨ge, pe + t, none⟩ = some (.slice x.pa x.pn x.pc)) := hc
      clear hc hx
      go_wp2_with fail
      refine (Tx.begin JJ.J C.on fa).mono ?_
      rintro e' w4 ⟨tb, wm, rfl, l1, l2, X4, t4⟩
      have T4 := Tr.kp (Kp.turns t4 (fun x cs ty fz g hx ht e => e.elim g (jty_jb JJ.J.J hx ht)))
      have sr := Br.size
      have B4 := Br.trans (t4.below (fun i r => r.elim (gB i) (fun e => by omega)) sr)
      have hc4 : w4.cell? ⟨ge, pe + t, none⟩ = some (.slice x.pa x.pn x.pc) := cell_later B4 HC.out
      have h2 : st + sz ≤ k := Hsh.out.2.2.2.2
      go_wp2_with fail
      refine (fillG X4 T4 hol (hxl.trans hol) hn C.on h2 hos hnd hsee w.heap.size B4 (Nat.le_refl _) gB (by omega) (by omega) x.pa x.pn x.pc x.ps hpx hPx (Nat.le_refl _)).mono ?_
      rintro e' w5 ⟨ns, m, f', nv, ys, sn, ks, rfl, I⟩
      obtain ⟨gn, cn, rfl⟩ : ∃ g c, nv = .slice (some ⟨g, 0, none⟩) n c := by
        have r := I.W.row
        rw [I.yl, hol] at r
        obtain ⟨g, c, e, _⟩ := (row_nat r).resolve_left (fun q => by omega)
        exact ⟨g, c, e⟩
      clear hc4 T4 X4 t4
      go_wp2_with fail
      refine (commitG I.X JJ.L JJ.C JJ.O JJ.nb (fun p hp => hos p.1 (I.mo p hp)) I.few (C.lasts _) (by omega) (by omega)).mono ?_
      rintro e' w6 ⟨rfl, R⟩
      obtain ⟨td6, tr6, S', N', G', seq', place', free', bm', nd', a', fa', T', q0', p0', JJ', hG', hbm', hN', hsq1, hsq2, hoff, hfz, hsee'⟩ := R
      have K6 := Kp.commit I.X tr6
      have T6 := I.T.to K6 hG'
      have W6 := I.W.to K6 hG'
      have B5 : Below w.heap.size w w5 := B4.trans I.bw
      have s5 := B5.size
      have B6 := B5.trans (tr6.below (fun i r => by
        rcases r with r | r | r | r
        · exact gB i r
        · omega
        · omega
        · omega) s5)
      have z4 : w6.cell? ⟨tw, 4, none⟩ = some wv1 := by simp [World.cell?, T6.box]
      have zf : w6.frozen? ⟨tw, 4, none⟩ = false := by simp [World.frozen?, T6.box]
      have HX : Hid (StE w (w6.setCell ⟨tw, 4, none⟩ (.slice (some ⟨gn, 0, none⟩) n cn)) tw db k st sz ov os jb (t + 1)) := by
        obtain ⟨T7, u7⟩ := T6.setWant W6
        have J7 := JJ'.J.turn1 T6.box (by decide) (by decide) T6.gt u7
        refine ⟨G', ⟨S', N', seq', place', free', bm', nd', a', fa', T', q0', p0', _, ys, ⟨J7, JJ'.L, JJ'.C, JJ'.O, JJ'.nb⟩, ⟨hoff, by rw [hfz, C.fu]; omega⟩, T7, I.yl, fun i o x ho hx => ?_, by omega, by omega, by rcases hbm' with e | e <;> omega, B6.trans (u7.below (fun i e => by omega) B6.size)⟩, fun i hi => (hG' i hi).elim (gB i) (fun r => by omega), ljb, ltw2⟩
        have h3 := hos o (List.mem_of_getElem? ho)
        rw [I.see i o x ho hx, hsee' o h3.1 h3.2]
      clear JJ JJ' I T6 W6 Tr K6 tr6 td6 hsee hsee' C
      go_wp2_with (go_at_call 15; refine (num7 _ _).mono ?_; rintro e' wn ⟨rfl, hwn⟩; subst wn)
      go_roundw
      case rel => exact ⟨t + 1, by omega, by omega, by go_num, HX.out⟩
      case measure => simp [intOf]; omega
    · have hend : ¬ (t : Int) < nt ∨ ((t : Int) < nt ∧ ¬ (t : Int) < 20) := by omega
      rcases hend with hd | ⟨hd1, hd2⟩
      · go_wp2_with fail
        refine (Tx.begin JJ.J C.on fa).mono ?_
        rintro e' w4 ⟨tb, wm, rfl, l1, l2, X4, t4⟩
        have T4 := Tr.kp (Kp.turns t4 (fun x cs ty fz g hx ht e => e.elim g (jty_jb JJ.J.J hx ht)))
        have sr := Br.size
        have B4 := Br.trans (t4.below (fun i r => r.elim (gB i) (fun e => by omega)) sr)
        have h2 : st + sz ≤ k := Hsh.out.2.2.2.2
        go_wp2_with fail
        refine (fillG X4 T4 hol (hxl.trans hol) hn C.on h2 hos hnd hsee w.heap.size B4 (Nat.le_refl _) gB (by omega) (by omega) bo np pc ps hnp hP (Nat.le_refl _)).mono ?_
        rintro e' w5 ⟨ns, m, f', nv, ys, sn, ks, rfl, I⟩
        obtain ⟨gn, cn, rfl⟩ : ∃ g c, nv = .slice (some ⟨g, 0, none⟩) n c := by
          have r := I.W.row
          rw [I.yl, hol] at r
          obtain ⟨g, c, e, _⟩ := (row_nat r).resolve_left (fun q => by omega)
          exact ⟨g, c, e⟩
        have B5 : Below w.heap.size w w5 := B4.trans I.bw
        clear T4 X4 t4 B4
        go_wp2_with fail
        refine (blocks_ok I.X.T I.X.M (by have := I.few; omega)).mono ?_
        rintro e' w6 ⟨gb6, cb6, rfl, rb6, b6⟩
        have X6 := I.X.below b6
        have T6 := I.T.kp (Kp.below b6)
        have W6 := I.W.kp (Kp.below b6)
        have s5 := B5.size
        have B6 := B5.trans (b6.mono s5)
        clear rb6 b6
        go_wp2_with fail
        refine (state_ok X6.J X6.A).mono ?_
        rintro e' w7 ⟨rfl, dn, rfl⟩
        have bdn : Below w6.heap.size w6 (w6.drewN dn) := ⟨rfl, rfl, rfl, Nat.le_refl _, fun _ _ => rfl⟩
        have X7 := X6.below bdn
        have T7 := T6.kp (Kp.below bdn)
        have W7 := W6.kp (Kp.below bdn)
        have B7 := B6.trans (bdn.mono B6.size)
        obtain ⟨w7, hw7⟩ : ∃ w7, w6.drewN dn = w7 := ⟨_, rfl⟩
        rw [hw7] at X7 T7 W7 B7 ⊢
        clear X6 T6 W6 B6 hw7 bdn
        go_wp2_with fail
        refine (seq_ok X7.T X7.J).mono ?_
        rintro e' wn ⟨rfl, hwn⟩
        subst wn
        have hf0 := JJ.L.f0
        have hfr := JJ.L.fr
        have n1 : ¬ free < 0 := by omega
        have n2 : ¬ (sz : Int) - 1 < free := by omega
        have n3 : ¬ (a.length : Int) < 0 := by omega
        have hm24 := I.few
        have hla := low_len X7.A.ris (JJ.O.low JJ.L.good.top)
        have c0 : w7.cell? ⟨tw, 0, none⟩ = some (.pointer (some ⟨db, 0, none⟩)) := by simp [World.cell?, T7.box]
        have c2 : w7.cell? ⟨tw, 2, none⟩ = some (.int .i64 (sz : Nat)) := by simp [World.cell?, T7.box]
        have hzb : (sz : Int) ≤ 200 := by have := Hsh.out; omega
        by_cases hm0 : m.length = 0
        · have hmi : (m.length : Int) = 0 := by omega
          have hmn : m = [] := List.eq_nil_of_length_eq_zero hm0
          have hcost : costC m a free = 0 := by unfold costC; rw [if_pos hmn]
          by_cases hf2 : free < 2
          · as_aux_lemma =>
            have hcb : costC m a free ≤ 10000 := by rw [hcost]; omega
            go_wp2_with fail
            refine (arm_any X7.D (1 : Int) (by omega)).mono ?_
            rintro e' w8 ⟨rfl, q8⟩
            rw [show (1 : Int) = ((costC m a free + 1 : Nat) : Int) by rw [hcost]; omega, armed_on C.on] at q8
            obtain ⟨S8, hS8⟩ : ∃ S8 : DevS, { S with fuse := costC m a free + 1 } = S8 := ⟨_, rfl⟩
            rw [hS8] at q8
            have L8 : Lg S8 k st sz seq place free T seq0 place0 := by
              rw [← hS8]
              exact JJ.L.like rfl JJ.L.calm (by show costC m a free + 1 ≤ _; omega)
            have la8 : Lasts S8 (costC m a free) := by
              rw [← hS8]
              exact ⟨C.on, Or.inr (Nat.lt_succ_self _)⟩
            have hf8 : S8.fuse = costC m a free + 1 := by rw [← hS8]
            have hsee8 : ∀ o, seesF S8 m f' a fa o = seesF S m f' a fa o := fun o => by rw [← hS8]; rfl
            have X8 := X7.armed q8
            have T8 := T7.kp (Kp.same q8.2)
            have W8 := W7.kp (Kp.same q8.2)
            have s7 := B7.size
            have B8 := B7.trans (q8.2.below gB s7)
            clear X7 T7 W7 q8 c0 c2 hS8
            go_wp2_with fail
            refine (commitG X8 L8 JJ.C JJ.O JJ.nb (fun p hp => hos p.1 (I.mo p hp)) I.few la8 (by omega) (by omega)).mono ?_
            rintro e' w9 ⟨rfl, R⟩
            obtain ⟨td9, tr9, S', N', G', seq', place', free', bm', nd', a', fa', T', q0', p0', JJ', hG', hbm', hN', hsq1, hsq2, hoff, hfz, hsee'⟩ := R
            have K9 := Kp.commit X8 tr9
            have T9 := T8.to K9 hG'
            have W9 := W8.to K9 hG'
            have s8 := B8.size
            have B9 := B8.trans (tr9.below (fun i r => by
              rcases r with r | r | r | r
              · exact gB i r
              · omega
              · omega
              · omega) s8)
            have hfu : S'.fuse = 1 := by rw [hfz, hf8]; omega
            have gB' : ∀ i, G' i → w.heap.size ≤ i := fun i hi => (hG' i hi).elim (gB i) (fun r => by omega)
            have c9 : w9.cell? ⟨tw, 0, none⟩ = some (.pointer (some ⟨db, 0, none⟩)) := by simp [World.cell?, T9.box]
            clear T8 W8 K9 tr9 td9 X8
            go_wp2_with fail
            refine (flush_any JJ'.J.D (by omega)).mono ?_
            rintro e' wA ⟨rfl, DA, tA⟩
            have hbo : (burnt S').off = true := by unfold burnt; rw [if_neg (by omega)]; simp [hfu]
            have hfe : flE S' = 3 := by unfold flE; rw [if_pos hbo]
            have hfs : flS S' = burnt S' := by unfold flS; rw [if_pos hbo]
            rw [hfe]
            rw [hfs] at DA
            have hgr : ∀ i, grow G' w9 wA i → G' i ∨ w9.heap.size ≤ i := fun i hi => hi.imp id (fun r => r.1)
            have TA := T9.to (Kp.same tA) hgr
            have WA := W9.to (Kp.same tA) hgr
            have s9 := B9.size
            have BA := B9.trans (tA.below gB' s9)
            have gBA : ∀ i, grow G' w9 wA i → w.heap.size ≤ i := fun i hi => (hgr i hi).elim (gB' i) (fun r => by omega)
            clear T9 W9 tA c9 hgr
            obtain ⟨GA, hGA⟩ : ∃ GA, grow G' w9 wA = GA := ⟨_, rfl⟩
            rw [hGA] at DA TA WA gBA
            clear hGA
            have cA4 : wA.cell? ⟨tw, 4, none⟩ = some wv1 := by simp [World.cell?, TA.box]
            have cAf : wA.frozen? ⟨tw, 4, none⟩ = false := by simp [World.frozen?, TA.box]
            have cA0 : wA.cell? ⟨tw, 0, none⟩ = some (.pointer (some ⟨db, 0, none⟩)) := by simp [World.cell?, TA.box]
            have HTB : Hid (Tg (wA.setCell ⟨tw, 4, none⟩ (.slice (some ⟨gn, 0, none⟩) n cn)) GA tw db st sz ov (.slice (some ⟨gn, 0, none⟩) n cn) os ys ∧ Turns (fun i => i = tw) wA (wA.setCell ⟨tw, 4, none⟩ (.slice (some ⟨gn, 0, none⟩) n cn))) := TA.setWant WA
            have lA : (burnt S').last = S'.last := by unfold burnt; split <;> rfl
            go_wp2_with (go_at_call 15; refine (num7 _ _).mono ?_; rintro e' wn ⟨rfl, hwn⟩; subst wn)
            obtain ⟨TB, tB⟩ := HTB.out
            clear HTB
            have DB := DA.turns tB (fun i hi e => TB.gt (e ▸ hi))
            have BB := BA.trans (tB.below (fun i e => by omega) BA.size)
            obtain ⟨wB, hwB⟩ : ∃ wB, wA.setCell ⟨tw, 4, none⟩ (.slice (some ⟨gn, 0, none⟩) n cn) = wB := ⟨_, rfl⟩
            rw [hwB] at TB DB BB ⊢
            clear DA TA WA tB cA4 cAf cA0 hwB BA
            refine (crash_any DB none 0 0 [] (KLies.nil wB) (by omega) (fun ad had => by cases had) (by omega)).mono ?_
            rintro e' wC ⟨rfl, DC, tC⟩
            have hcr : crashed (burnt S') [] = fresh S'.last := by
              unfold crashed fresh
              have : kept (burnt S').pend [] = [] := by cases (burnt S').pend <;> rfl
              rw [this, lA]
              rfl
            rw [hcr] at DC
            have hgr : ∀ i, grow GA wB wC i → GA i ∨ wB.heap.size ≤ i := fun i hi => hi.imp id (fun r => r.1)
            have TC := TB.to (Kp.same tC) hgr
            have sB := BB.size
            have BC := BB.trans (tC.below gBA sB)
            have gBC : ∀ i, grow GA wB wC i → w.heap.size ≤ i := fun i hi => (hgr i hi).elim (gBA i) (fun r => by omega)
            clear TB DB tC hgr
            obtain ⟨GC, hGC⟩ : ∃ GC, grow GA wB wC = GC := ⟨_, rfl⟩
            rw [hGC] at DC TC gBC
            clear hGC
            have LC : Lg (fresh S'.last) k st sz seq' place' free' T' q0' p0' := JJ'.L.like rfl rfl (by show (0 : Nat) ≤ _; omega)
            have hEC : ∀ w', Turns GC wC w' → Errs w' er := fun w' t => hE.below (BC.trans (t.below gBC BC.size)) (Nat.le_refl _)
            go_wp2_with fail
            refine (openG TC DC LC ⟨rfl, rfl⟩ (by omega) (by omega) hEC).mono ?_
            rintro e' wD ⟨jb2, bm2, rfl, lj2, lb2, hO⟩
            obtain ⟨⟨S5, N5, G5, J5, L5, C5, hN5, hrd5, hG5, T5⟩, t5⟩ := hO
            have sC := BC.size
            have BD := BC.trans (t5.below gBC sC)
            have gBD : ∀ i, G5 i → w.heap.size ≤ i := fun i hi => (hG5 i hi).elim (gBC i) (fun r => by omega)
            have hse5 : ∀ (i o : Nat) (x : It), os[i]? = some o → ys[i]? = some x → x.bs = seesF S5 [] (fun _ => []) [] (fun _ => []) o := fun i o x ho hx => by
              have h3 := hos o (List.mem_of_getElem? ho)
              rw [I.see i o x ho hx, ← hsee8, ← hsee' o h3.1 h3.2, sees_ovl JJ'.C o]
              simp only [seesF, lk]
              rw [hrd5 o h3.1 h3.2]
              have e1 : rdB (fresh S'.last) o = rdB S' o := by unfold rdB; rw [JJ'.L.calm]; rfl
              rw [e1]
              rfl
            have hyl : ys.length = n := I.yl.trans hol
            clear TC DC t5 hEC JJ JJ' I
            go_wp2_with fail
            refine (holdsG J5 C5.on T5 hol hyl hn h2 hos hse5 (B := w.heap.size) BD.size gBD (by omega)).mono ?_
            rintro e' wE ⟨rfl, BE0, JE, TE⟩
            have BE := BD.trans BE0
            have cE0 : wE.cell? ⟨tw, 0, none⟩ = some (.pointer (some ⟨db, 0, none⟩)) := by simp [World.cell?, TE.box]
            clear J5 T5 BE0
            go_wp2_with fail
            refine (arm_any JE.D 1 (by omega)).mono ?_
            rintro e' wF ⟨rfl, qF⟩
            have JF := JE.same qF
            have TF := TE.kp (Kp.same qF.2)
            have BF := BE.trans (qF.2.below gBD BE.size)
            have hof : (armed S5 1).off = false := by unfold armed; rw [if_neg (by omega), if_neg (by simp [C5.on])]; exact C5.on
            clear JE TE qF cE0
            go_wp2_with fail
            refine (check_none JF hof).mono ?_
            rintro e' wG ⟨rfl, qG⟩
            have JG := JF.same qG
            have TG := TF.kp (Kp.same qG.2)
            have BG := BF.trans (qG.2.below gBD BF.size)
            clear JF TF qG
            go_wp2_with fail
            refine (state_ok JG.J JG.A).mono ?_
            rintro e' wH ⟨rfl, dh, rfl⟩
            have bdh : Below wG.heap.size wG (wG.drewN dh) := ⟨rfl, rfl, rfl, Nat.le_refl _, fun _ _ => rfl⟩
            have JH := JG.below bdh
            have TH := TG.kp (Kp.below bdh)
            have BH := BG.trans (bdh.mono BG.size)
            obtain ⟨wH, hwH⟩ : ∃ wH, wG.drewN dh = wH := ⟨_, rfl⟩
            rw [hwH] at JH TH BH ⊢
            clear JG TG hwH bdh
            have cH0 : wH.cell? ⟨tw, 0, none⟩ = some (.pointer (some ⟨db, 0, none⟩)) := by simp [World.cell?, TH.box]
            have hsqi : (seq : Int) ≤ seq' := by omega
            go_wp2_with (go_at_call 15; refine (num7 _ _).mono ?_; rintro e' wn ⟨rfl, hwn⟩; subst wn)
            refine (power_any JH.D).mono ?_
            rintro e' wI ⟨rfl, qI⟩
            have TI := TH.kp (Kp.same qI.2)
            have cI2 : wI.cell? ⟨tw, 2, none⟩ = some (.int .i64 (sz : Nat)) := by simp [World.cell?, TI.box]
            have BI := BH.trans (qI.2.below gBD BH.size)
            rw [hof]
            clear JH TH cH0 qI
            go_wp2_with fail
            go_ret
            exact ⟨rfl, BI⟩
          · as_aux_lemma =>
            have hcb : costC m a free ≤ 10000 := by rw [hcost]; omega
            go_wp2_with fail
            refine (arm_any X7.D (1 : Int) (by omega)).mono ?_
            rintro e' w8 ⟨rfl, q8⟩
            rw [show (1 : Int) = ((costC m a free + 1 : Nat) : Int) by rw [hcost]; omega, armed_on C.on] at q8
            obtain ⟨S8, hS8⟩ : ∃ S8 : DevS, { S with fuse := costC m a free + 1 } = S8 := ⟨_, rfl⟩
            rw [hS8] at q8
            have L8 : Lg S8 k st sz seq place free T seq0 place0 := by
              rw [← hS8]
              exact JJ.L.like rfl JJ.L.calm (by show costC m a free + 1 ≤ _; omega)
            have la8 : Lasts S8 (costC m a free) := by
              rw [← hS8]
              exact ⟨C.on, Or.inr (Nat.lt_succ_self _)⟩
            have hf8 : S8.fuse = costC m a free + 1 := by rw [← hS8]
            have hsee8 : ∀ o, seesF S8 m f' a fa o = seesF S m f' a fa o := fun o => by rw [← hS8]; rfl
            have X8 := X7.armed q8
            have T8 := T7.kp (Kp.same q8.2)
            have W8 := W7.kp (Kp.same q8.2)
            have s7 := B7.size
            have B8 := B7.trans (q8.2.below gB s7)
            clear X7 T7 W7 q8 c0 c2 hS8
            go_wp2_with fail
            refine (commitG X8 L8 JJ.C JJ.O JJ.nb (fun p hp => hos p.1 (I.mo p hp)) I.few la8 (by omega) (by omega)).mono ?_
            rintro e' w9 ⟨rfl, R⟩
            obtain ⟨td9, tr9, S', N', G', seq', place', free', bm', nd', a', fa', T', q0', p0', JJ', hG', hbm', hN', hsq1, hsq2, hoff, hfz, hsee'⟩ := R
            have K9 := Kp.commit X8 tr9
            have T9 := T8.to K9 hG'
            have W9 := W8.to K9 hG'
            have s8 := B8.size
            have B9 := B8.trans (tr9.below (fun i r => by
              rcases r with r | r | r | r
              · exact gB i r
              · omega
              · omega
              · omega) s8)
            have hfu : S'.fuse = 1 := by rw [hfz, hf8]; omega
            have gB' : ∀ i, G' i → w.heap.size ≤ i := fun i hi => (hG' i hi).elim (gB i) (fun r => by omega)
            have c9 : w9.cell? ⟨tw, 0, none⟩ = some (.pointer (some ⟨db, 0, none⟩)) := by simp [World.cell?, T9.box]
            clear T8 W8 K9 tr9 td9 X8
            go_wp2_with fail
            refine (flush_any JJ'.J.D (by omega)).mono ?_
            rintro e' wA ⟨rfl, DA, tA⟩
            have hbo : (burnt S').off = true := by unfold burnt; rw [if_neg (by omega)]; simp [hfu]
            have hfe : flE S' = 3 := by unfold flE; rw [if_pos hbo]
            have hfs : flS S' = burnt S' := by unfold flS; rw [if_pos hbo]
            rw [hfe]
            rw [hfs] at DA
            have hgr : ∀ i, grow G' w9 wA i → G' i ∨ w9.heap.size ≤ i := fun i hi => hi.imp id (fun r => r.1)
            have TA := T9.to (Kp.same tA) hgr
            have WA := W9.to (Kp.same tA) hgr
            have s9 := B9.size
            have BA := B9.trans (tA.below gB' s9)
            have gBA : ∀ i, grow G' w9 wA i → w.heap.size ≤ i := fun i hi => (hgr i hi).elim (gB' i) (fun r => by omega)
            clear T9 W9 tA c9 hgr
            obtain ⟨GA, hGA⟩ : ∃ GA, grow G' w9 wA = GA := ⟨_, rfl⟩
            rw [hGA] at DA TA WA gBA
            clear hGA
            have cA4 : wA.cell? ⟨tw, 4, none⟩ = some wv1 := by simp [World.cell?, TA.box]
            have cAf : wA.frozen? ⟨tw, 4, none⟩ = false := by simp [World.frozen?, TA.box]
            have cA0 : wA.cell? ⟨tw, 0, none⟩ = some (.pointer (some ⟨db, 0, none⟩)) := by simp [World.cell?, TA.box]
            have HTB : Hid (Tg (wA.setCell ⟨tw, 4, none⟩ (.slice (some ⟨gn, 0, none⟩) n cn)) GA tw db st sz ov (.slice (some ⟨gn, 0, none⟩) n cn) os ys ∧ Turns (fun i => i = tw) wA (wA.setCell ⟨tw, 4, none⟩ (.slice (some ⟨gn, 0, none⟩) n cn))) := TA.setWant WA
            have lA : (burnt S').last = S'.last := by unfold burnt; split <;> rfl
            go_wp2_with (go_at_call 15; refine (num7 _ _).mono ?_; rintro e' wn ⟨rfl, hwn⟩; subst wn)
            obtain ⟨TB, tB⟩ := HTB.out
            clear HTB
            have DB := DA.turns tB (fun i hi e => TB.gt (e ▸ hi))
            have BB := BA.trans (tB.below (fun i e => by omega) BA.size)
            obtain ⟨wB, hwB⟩ : ∃ wB, wA.setCell ⟨tw, 4, none⟩ (.slice (some ⟨gn, 0, none⟩) n cn) = wB := ⟨_, rfl⟩
            rw [hwB] at TB DB BB ⊢
            clear DA TA WA tB cA4 cAf cA0 hwB BA
            refine (crash_any DB none 0 0 [] (KLies.nil wB) (by omega) (fun ad had => by cases had) (by omega)).mono ?_
            rintro e' wC ⟨rfl, DC, tC⟩
            have hcr : crashed (burnt S') [] = fresh S'.last := by
              unfold crashed fresh
              have : kept (burnt S').pend [] = [] := by cases (burnt S').pend <;> rfl
              rw [this, lA]
              rfl
            rw [hcr] at DC
            have hgr : ∀ i, grow GA wB wC i → GA i ∨ wB.heap.size ≤ i := fun i hi => hi.imp id (fun r => r.1)
            have TC := TB.to (Kp.same tC) hgr
            have sB := BB.size
            have BC := BB.trans (tC.below gBA sB)
            have gBC : ∀ i, grow GA wB wC i → w.heap.size ≤ i := fun i hi => (hgr i hi).elim (gBA i) (fun r => by omega)
            clear TB DB tC hgr
            obtain ⟨GC, hGC⟩ : ∃ GC, grow GA wB wC = GC := ⟨_, rfl⟩
            rw [hGC] at DC TC gBC
            clear hGC
            have LC : Lg (fresh S'.last) k st sz seq' place' free' T' q0' p0' := JJ'.L.like rfl rfl (by show (0 : Nat) ≤ _; omega)
            have hEC : ∀ w', Turns GC wC w' → Errs w' er := fun w' t => hE.below (BC.trans (t.below gBC BC.size)) (Nat.le_refl _)
            go_wp2_with fail
            refine (openG TC DC LC ⟨rfl, rfl⟩ (by omega) (by omega) hEC).mono ?_
            rintro e' wD ⟨jb2, bm2, rfl, lj2, lb2, hO⟩
            obtain ⟨⟨S5, N5, G5, J5, L5, C5, hN5, hrd5, hG5, T5⟩, t5⟩ := hO
            have sC := BC.size
            have BD := BC.trans (t5.below gBC sC)
            have gBD : ∀ i, G5 i → w.heap.size ≤ i := fun i hi => (hG5 i hi).elim (gBC i) (fun r => by omega)
            have hse5 : ∀ (i o : Nat) (x : It), os[i]? = some o → ys[i]? = some x → x.bs = seesF S5 [] (fun _ => []) [] (fun _ => []) o := fun i o x ho hx => by
              have h3 := hos o (List.mem_of_getElem? ho)
              rw [I.see i o x ho hx, ← hsee8, ← hsee' o h3.1 h3.2, sees_ovl JJ'.C o]
              simp only [seesF, lk]
              rw [hrd5 o h3.1 h3.2]
              have e1 : rdB (fresh S'.last) o = rdB S' o := by unfold rdB; rw [JJ'.L.calm]; rfl
              rw [e1]
              rfl
            have hyl : ys.length = n := I.yl.trans hol
            clear TC DC t5 hEC JJ JJ' I
            go_wp2_with fail
            refine (holdsG J5 C5.on T5 hol hyl hn h2 hos hse5 (B := w.heap.size) BD.size gBD (by omega)).mono ?_
            rintro e' wE ⟨rfl, BE0, JE, TE⟩
            have BE := BD.trans BE0
            have cE0 : wE.cell? ⟨tw, 0, none⟩ = some (.pointer (some ⟨db, 0, none⟩)) := by simp [World.cell?, TE.box]
            clear J5 T5 BE0
            go_wp2_with fail
            refine (arm_any JE.D 1 (by omega)).mono ?_
            rintro e' wF ⟨rfl, qF⟩
            have JF := JE.same qF
            have TF := TE.kp (Kp.same qF.2)
            have BF := BE.trans (qF.2.below gBD BE.size)
            have hof : (armed S5 1).off = false := by unfold armed; rw [if_neg (by omega), if_neg (by simp [C5.on])]; exact C5.on
            clear JE TE qF cE0
            go_wp2_with fail
            refine (check_none JF hof).mono ?_
            rintro e' wG ⟨rfl, qG⟩
            have JG := JF.same qG
            have TG := TF.kp (Kp.same qG.2)
            have BG := BF.trans (qG.2.below gBD BF.size)
            clear JF TF qG
            go_wp2_with fail
            refine (state_ok JG.J JG.A).mono ?_
            rintro e' wH ⟨rfl, dh, rfl⟩
            have bdh : Below wG.heap.size wG (wG.drewN dh) := ⟨rfl, rfl, rfl, Nat.le_refl _, fun _ _ => rfl⟩
            have JH := JG.below bdh
            have TH := TG.kp (Kp.below bdh)
            have BH := BG.trans (bdh.mono BG.size)
            obtain ⟨wH, hwH⟩ : ∃ wH, wG.drewN dh = wH := ⟨_, rfl⟩
            rw [hwH] at JH TH BH ⊢
            clear JG TG hwH bdh
            have cH0 : wH.cell? ⟨tw, 0, none⟩ = some (.pointer (some ⟨db, 0, none⟩)) := by simp [World.cell?, TH.box]
            have hsqi : (seq : Int) ≤ seq' := by omega
            go_wp2_with (go_at_call 15; refine (num7 _ _).mono ?_; rintro e' wn ⟨rfl, hwn⟩; subst wn)
            refine (power_any JH.D).mono ?_
            rintro e' wI ⟨rfl, qI⟩
            have TI := TH.kp (Kp.same qI.2)
            have cI2 : wI.cell? ⟨tw, 2, none⟩ = some (.int .i64 (sz : Nat)) := by simp [World.cell?, TI.box]
            have BI := BH.trans (qI.2.below gBD BH.size)
            rw [hof]
            clear JH TH cH0 qI
            go_wp2_with fail
            go_ret
            exact ⟨rfl, BI⟩
        · have hmi : ¬ (m.length : Int) = 0 := by omega
          have hmn : ¬ m = [] := fun e => hm0 (by rw [e]; rfl)
          by_cases hfull : free < (m.length : Int) + 2
          · have hcost : costC m a free = m.length + 4 + (a.length + 3) := by unfold costC; rw [if_neg hmn, if_pos hfull]
            as_aux_lemma =>
            have hcb : costC m a free ≤ 10000 := by rw [hcost]; omega
            go_wp2_with fail
            refine (arm_any X7.D ((m.length : Int) + 4 + (a.length : Int) + 3 + 1) (by omega)).mono ?_
            rintro e' w8 ⟨rfl, q8⟩
            rw [show ((m.length : Int) + 4 + (a.length : Int) + 3 + 1) = ((costC m a free + 1 : Nat) : Int) by rw [hcost]; omega, armed_on C.on] at q8
            obtain ⟨S8, hS8⟩ : ∃ S8 : DevS, { S with fuse := costC m a free + 1 } = S8 := ⟨_, rfl⟩
            rw [hS8] at q8
            have L8 : Lg S8 k st sz seq place free T seq0 place0 := by
              rw [← hS8]
              exact JJ.L.like rfl JJ.L.calm (by show costC m a free + 1 ≤ _; omega)
            have la8 : Lasts S8 (costC m a free) := by
              rw [← hS8]
              exact ⟨C.on, Or.inr (Nat.lt_succ_self _)⟩
            have hf8 : S8.fuse = costC m a free + 1 := by rw [← hS8]
            have hsee8 : ∀ o, seesF S8 m f' a fa o = seesF S m f' a fa o := fun o => by rw [← hS8]; rfl
            have X8 := X7.armed q8
            have T8 := T7.kp (Kp.same q8.2)
            have W8 := W7.kp (Kp.same q8.2)
            have s7 := B7.size
            have B8 := B7.trans (q8.2.below gB s7)
            clear X7 T7 W7 q8 c0 c2 hS8
            go_wp2_with fail
            refine (commitG X8 L8 JJ.C JJ.O JJ.nb (fun p hp => hos p.1 (I.mo p hp)) I.few la8 (by omega) (by omega)).mono ?_
            rintro e' w9 ⟨rfl, R⟩
            obtain ⟨td9, tr9, S', N', G', seq', place', free', bm', nd', a', fa', T', q0', p0', JJ', hG', hbm', hN', hsq1, hsq2, hoff, hfz, hsee'⟩ := R
            have K9 := Kp.commit X8 tr9
            have T9 := T8.to K9 hG'
            have W9 := W8.to K9 hG'
            have s8 := B8.size
            have B9 := B8.trans (tr9.below (fun i r => by
              rcases r with r | r | r | r
              · exact gB i r
              · omega
              · omega
              · omega) s8)
            have hfu : S'.fuse = 1 := by rw [hfz, hf8]; omega
            have gB' : ∀ i, G' i → w.heap.size ≤ i := fun i hi => (hG' i hi).elim (gB i) (fun r => by omega)
            have c9 : w9.cell? ⟨tw, 0, none⟩ = some (.pointer (some ⟨db, 0, none⟩)) := by simp [World.cell?, T9.box]
            clear T8 W8 K9 tr9 td9 X8
            go_wp2_with fail
            refine (flush_any JJ'.J.D (by omega)).mono ?_
            rintro e' wA ⟨rfl, DA, tA⟩
            have hbo : (burnt S').off = true := by unfold burnt; rw [if_neg (by omega)]; simp [hfu]
            have hfe : flE S' = 3 := by unfold flE; rw [if_pos hbo]
            have hfs : flS S' = burnt S' := by unfold flS; rw [if_pos hbo]
            rw [hfe]
            rw [hfs] at DA
            have hgr : ∀ i, grow G' w9 wA i → G' i ∨ w9.heap.size ≤ i := fun i hi => hi.imp id (fun r => r.1)
            have TA := T9.to (Kp.same tA) hgr
            have WA := W9.to (Kp.same tA) hgr
            have s9 := B9.size
            have BA := B9.trans (tA.below gB' s9)
            have gBA : ∀ i, grow G' w9 wA i → w.heap.size ≤ i := fun i hi => (hgr i hi).elim (gB' i) (fun r => by omega)
            clear T9 W9 tA c9 hgr
            obtain ⟨GA, hGA⟩ : ∃ GA, grow G' w9 wA = GA := ⟨_, rfl⟩
            rw [hGA] at DA TA WA gBA
            clear hGA
            have cA4 : wA.cell? ⟨tw, 4, none⟩ = some wv1 := by simp [World.cell?, TA.box]
            have cAf : wA.frozen? ⟨tw, 4, none⟩ = false := by simp [World.frozen?, TA.box]
            have cA0 : wA.cell? ⟨tw, 0, none⟩ = some (.pointer (some ⟨db, 0, none⟩)) := by simp [World.cell?, TA.box]
            have HTB : Hid (Tg (wA.setCell ⟨tw, 4, none⟩ (.slice (some ⟨gn, 0, none⟩) n cn)) GA tw db st sz ov (.slice (some ⟨gn, 0, none⟩) n cn) os ys ∧ Turns (fun i => i = tw) wA (wA.setCell ⟨tw, 4, none⟩ (.slice (some ⟨gn, 0, none⟩) n cn))) := TA.setWant WA
            have lA : (burnt S').last = S'.last := by unfold burnt; split <;> rfl
            go_wp2_with (go_at_call 15; refine (num7 _ _).mono ?_; rintro e' wn ⟨rfl, hwn⟩; subst wn)
            obtain ⟨TB, tB⟩ := HTB.out
            clear HTB
            have DB := DA.turns tB (fun i hi e => TB.gt (e ▸ hi))
            have BB := BA.trans (tB.below (fun i e => by omega) BA.size)
            obtain ⟨wB, hwB⟩ : ∃ wB, wA.setCell ⟨tw, 4, none⟩ (.slice (some ⟨gn, 0, none⟩) n cn) = wB := ⟨_, rfl⟩
            rw [hwB] at TB DB BB ⊢
            clear DA TA WA tB cA4 cAf cA0 hwB BA
            refine (crash_any DB none 0 0 [] (KLies.nil wB) (by omega) (fun ad had => by cases had) (by omega)).mono ?_
            rintro e' wC ⟨rfl, DC, tC⟩
            have hcr : crashed (burnt S') [] = fresh S'.last := by
              unfold crashed fresh
              have : kept (burnt S').pend [] = [] := by cases (burnt S').pend <;> rfl
              rw [this, lA]
              rfl
            rw [hcr] at DC
            have hgr : ∀ i, grow GA wB wC i → GA i ∨ wB.heap.size ≤ i := fun i hi => hi.imp id (fun r => r.1)
            have TC := TB.to (Kp.same tC) hgr
            have sB := BB.size
            have BC := BB.trans (tC.below gBA sB)
            have gBC : ∀ i, grow GA wB wC i → w.heap.size ≤ i := fun i hi => (hgr i hi).elim (gBA i) (fun r => by omega)
            clear TB DB tC hgr
            obtain ⟨GC, hGC⟩ : ∃ GC, grow GA wB wC = GC := ⟨_, rfl⟩
            rw [hGC] at DC TC gBC
            clear hGC
            have LC : Lg (fresh S'.last) k st sz seq' place' free' T' q0' p0' := JJ'.L.like rfl rfl (by show (0 : Nat) ≤ _; omega)
            have hEC : ∀ w', Turns GC wC w' → Errs w' er := fun w' t => hE.below (BC.trans (t.below gBC BC.size)) (Nat.le_refl _)
            go_wp2_with fail
            refine (openG TC DC LC ⟨rfl, rfl⟩ (by omega) (by omega) hEC).mono ?_
            rintro e' wD ⟨jb2, bm2, rfl, lj2, lb2, hO⟩
            obtain ⟨⟨S5, N5, G5, J5, L5, C5, hN5, hrd5, hG5, T5⟩, t5⟩ := hO
            have sC := BC.size
            have BD := BC.trans (t5.below gBC sC)
            have gBD : ∀ i, G5 i → w.heap.size ≤ i := fun i hi => (hG5 i hi).elim (gBC i) (fun r => by omega)
            have hse5 : ∀ (i o : Nat) (x : It), os[i]? = some o → ys[i]? = some x → x.bs = seesF S5 [] (fun _ => []) [] (fun _ => []) o := fun i o x ho hx => by
              have h3 := hos o (List.mem_of_getElem? ho)
              rw [I.see i o x ho hx, ← hsee8, ← hsee' o h3.1 h3.2, sees_ovl JJ'.C o]
              simp only [seesF, lk]
              rw [hrd5 o h3.1 h3.2]
              have e1 : rdB (fresh S'.last) o = rdB S' o := by unfold rdB; rw [JJ'.L.calm]; rfl
              rw [e1]
              rfl
            have hyl : ys.length = n := I.yl.trans hol
            clear TC DC t5 hEC JJ JJ' I
            go_wp2_with fail
            refine (holdsG J5 C5.on T5 hol hyl hn h2 hos hse5 (B := w.heap.size) BD.size gBD (by omega)).mono ?_
            rintro e' wE ⟨rfl, BE0, JE, TE⟩
            have BE := BD.trans BE0
            have cE0 : wE.cell? ⟨tw, 0, none⟩ = some (.pointer (some ⟨db, 0, none⟩)) := by simp [World.cell?, TE.box]
            clear J5 T5 BE0
            go_wp2_with fail
            refine (arm_any JE.D 1 (by omega)).mono ?_
            rintro e' wF ⟨rfl, qF⟩
            have JF := JE.same qF
            have TF := TE.kp (Kp.same qF.2)
            have BF := BE.trans (qF.2.below gBD BE.size)
            have hof : (armed S5 1).off = false := by unfold armed; rw [if_neg (by omega), if_neg (by simp [C5.on])]; exact C5.on
            clear JE TE qF cE0
            go_wp2_with fail
            refine (check_none JF hof).mono ?_
            rintro e' wG ⟨rfl, qG⟩
            have JG := JF.same qG
            have TG := TF.kp (Kp.same qG.2)
            have BG := BF.trans (qG.2.below gBD BF.size)
            clear JF TF qG
            go_wp2_with fail
            refine (state_ok JG.J JG.A).mono ?_
            rintro e' wH ⟨rfl, dh, rfl⟩
            have bdh : Below wG.heap.size wG (wG.drewN dh) := ⟨rfl, rfl, rfl, Nat.le_refl _, fun _ _ => rfl⟩
            have JH := JG.below bdh
            have TH := TG.kp (Kp.below bdh)
            have BH := BG.trans (bdh.mono BG.size)
            obtain ⟨wH, hwH⟩ : ∃ wH, wG.drewN dh = wH := ⟨_, rfl⟩
            rw [hwH] at JH TH BH ⊢
            clear JG TG hwH bdh
            have cH0 : wH.cell? ⟨tw, 0, none⟩ = some (.pointer (some ⟨db, 0, none⟩)) := by simp [World.cell?, TH.box]
            have hsqi : (seq : Int) ≤ seq' := by omega
            go_wp2_with (go_at_call 15; refine (num7 _ _).mono ?_; rintro e' wn ⟨rfl, hwn⟩; subst wn)
            refine (power_any JH.D).mono ?_
            rintro e' wI ⟨rfl, qI⟩
            have TI := TH.kp (Kp.same qI.2)
            have cI2 : wI.cell? ⟨tw, 2, none⟩ = some (.int .i64 (sz : Nat)) := by simp [World.cell?, TI.box]
            have BI := BH.trans (qI.2.below gBD BH.size)
            rw [hof]
            clear JH TH cH0 qI
            go_wp2_with fail
            go_ret
            exact ⟨rfl, BI⟩
          · have hcost : costC m a free = m.length + 4 := by unfold costC; rw [if_neg hmn, if_neg hfull]
            as_aux_lemma =>
            have hcb : costC m a free ≤ 10000 := by rw [hcost]; omega
            go_wp2_with fail
            refine (arm_any X7.D ((m.length : Int) + 4 + 1) (by omega)).mono ?_
            rintro e' w8 ⟨rfl, q8⟩
            rw [show ((m.length : Int) + 4 + 1) = ((costC m a free + 1 : Nat) : Int) by rw [hcost]; omega, armed_on C.on] at q8
            obtain ⟨S8, hS8⟩ : ∃ S8 : DevS, { S with fuse := costC m a free + 1 } = S8 := ⟨_, rfl⟩
            rw [hS8] at q8
            have L8 : Lg S8 k st sz seq place free T seq0 place0 := by
              rw [← hS8]
              exact JJ.L.like rfl JJ.L.calm (by show costC m a free + 1 ≤ _; omega)
            have la8 : Lasts S8 (costC m a free) := by
              rw [← hS8]
              exact ⟨C.on, Or.inr (Nat.lt_succ_self _)⟩
            have hf8 : S8.fuse = costC m a free + 1 := by rw [← hS8]
            have hsee8 : ∀ o, seesF S8 m f' a fa o = seesF S m f' a fa o := fun o => by rw [← hS8]; rfl
            have X8 := X7.armed q8
            have T8 := T7.kp (Kp.same q8.2)
            have W8 := W7.kp (Kp.same q8.2)
            have s7 := B7.size
            have B8 := B7.trans (q8.2.below gB s7)
            clear X7 T7 W7 q8 c0 c2 hS8
            go_wp2_with fail
            refine (commitG X8 L8 JJ.C JJ.O JJ.nb (fun p hp => hos p.1 (I.mo p hp)) I.few la8 (by omega) (by omega)).mono ?_
            rintro e' w9 ⟨rfl, R⟩
            obtain ⟨td9, tr9, S', N', G', seq', place', free', bm', nd', a', fa', T', q0', p0', JJ', hG', hbm', hN', hsq1, hsq2, hoff, hfz, hsee'⟩ := R
            have K9 := Kp.commit X8 tr9
            have T9 := T8.to K9 hG'
            have W9 := W8.to K9 hG'
            have s8 := B8.size
            have B9 := B8.trans (tr9.below (fun i r => by
              rcases r with r | r | r | r
              · exact gB i r
              · omega
              · omega
              · omega) s8)
            have hfu : S'.fuse = 1 := by rw [hfz, hf8]; omega
            have gB' : ∀ i, G' i → w.heap.size ≤ i := fun i hi => (hG' i hi).elim (gB i) (fun r => by omega)
            have c9 : w9.cell? ⟨tw, 0, none⟩ = some (.pointer (some ⟨db, 0, none⟩)) := by simp [World.cell?, T9.box]
            clear T8 W8 K9 tr9 td9 X8
            go_wp2_with fail
            refine (flush_any JJ'.J.D (by omega)).mono ?_
            rintro e' wA ⟨rfl, DA, tA⟩
            have hbo : (burnt S').off = true := by unfold burnt; rw [if_neg (by omega)]; simp [hfu]
            have hfe : flE S' = 3 := by unfold flE; rw [if_pos hbo]
            have hfs : flS S' = burnt S' := by unfold flS; rw [if_pos hbo]
            rw [hfe]
            rw [hfs] at DA
            have hgr : ∀ i, grow G' w9 wA i → G' i ∨ w9.heap.size ≤ i := fun i hi => hi.imp id (fun r => r.1)
            have TA := T9.to (Kp.same tA) hgr
            have WA := W9.to (Kp.same tA) hgr
            have s9 := B9.size
            have BA := B9.trans (tA.below gB' s9)
            have gBA : ∀ i, grow G' w9 wA i → w.heap.size ≤ i := fun i hi => (hgr i hi).elim (gB' i) (fun r => by omega)
            clear T9 W9 tA c9 hgr
            obtain ⟨GA, hGA⟩ : ∃ GA, grow G' w9 wA = GA := ⟨_, rfl⟩
            rw [hGA] at DA TA WA gBA
            clear hGA
            have cA4 : wA.cell? ⟨tw, 4, none⟩ = some wv1 := by simp [World.cell?, TA.box]
            have cAf : wA.frozen? ⟨tw, 4, none⟩ = false := by simp [World.frozen?, TA.box]
            have cA0 : wA.cell? ⟨tw, 0, none⟩ = some (.pointer (some ⟨db, 0, none⟩)) := by simp [World.cell?, TA.box]
            have HTB : Hid (Tg (wA.setCell ⟨tw, 4, none⟩ (.slice (some ⟨gn, 0, none⟩) n cn)) GA tw db st sz ov (.slice (some ⟨gn, 0, none⟩) n cn) os ys ∧ Turns (fun i => i = tw) wA (wA.setCell ⟨tw, 4, none⟩ (.slice (some ⟨gn, 0, none⟩) n cn))) := TA.setWant WA
            have lA : (burnt S').last = S'.last := by unfold burnt; split <;> rfl
            go_wp2_with (go_at_call 15; refine (num7 _ _).mono ?_; rintro e' wn ⟨rfl, hwn⟩; subst wn)
            obtain ⟨TB, tB⟩ := HTB.out
            clear HTB
            have DB := DA.turns tB (fun i hi e => TB.gt (e ▸ hi))
            have BB := BA.trans (tB.below (fun i e => by omega) BA.size)
            obtain ⟨wB, hwB⟩ : ∃ wB, wA.setCell ⟨tw, 4, none⟩ (.slice (some ⟨gn, 0, none⟩) n cn) = wB := ⟨_, rfl⟩
            rw [hwB] at TB DB BB ⊢
            clear DA TA WA tB cA4 cAf cA0 hwB BA
            refine (crash_any DB none 0 0 [] (KLies.nil wB) (by omega) (fun ad had => by cases had) (by omega)).mono ?_
            rintro e' wC ⟨rfl, DC, tC⟩
            have hcr : crashed (burnt S') [] = fresh S'.last := by
              unfold crashed fresh
              have : kept (burnt S').pend [] = [] := by cases (burnt S').pend <;> rfl
              rw [this, lA]
              rfl
            rw [hcr] at DC
            have hgr : ∀ i, grow GA wB wC i → GA i ∨ wB.heap.size ≤ i := fun i hi => hi.imp id (fun r => r.1)
            have TC := TB.to (Kp.same tC) hgr
            have sB := BB.size
            have BC := BB.trans (tC.below gBA sB)
            have gBC : ∀ i, grow GA wB wC i → w.heap.size ≤ i := fun i hi => (hgr i hi).elim (gBA i) (fun r => by omega)
            clear TB DB tC hgr
            obtain ⟨GC, hGC⟩ : ∃ GC, grow GA wB wC = GC := ⟨_, rfl⟩
            rw [hGC] at DC TC gBC
            clear hGC
            have LC : Lg (fresh S'.last) k st sz seq' place' free' T' q0' p0' := JJ'.L.like rfl rfl (by show (0 : Nat) ≤ _; omega)
            have hEC : ∀ w', Turns GC wC w' → Errs w' er := fun w' t => hE.below (BC.trans (t.below gBC BC.size)) (Nat.le_refl _)
            go_wp2_with fail
            refine (openG TC DC LC ⟨rfl, rfl⟩ (by omega) (by omega) hEC).mono ?_
            rintro e' wD ⟨jb2, bm2, rfl, lj2, lb2, hO⟩
            obtain ⟨⟨S5, N5, G5, J5, L5, C5, hN5, hrd5, hG5, T5⟩, t5⟩ := hO
            have sC := BC.size
            have BD := BC.trans (t5.below gBC sC)
            have gBD : ∀ i, G5 i → w.heap.size ≤ i := fun i hi => (hG5 i hi).elim (gBC i) (fun r => by omega)
            have hse5 : ∀ (i o : Nat) (x : It), os[i]? = some o → ys[i]? = some x → x.bs = seesF S5 [] (fun _ => []) [] (fun _ => []) o := fun i o x ho hx => by
              have h3 := hos o (List.mem_of_getElem? ho)
              rw [I.see i o x ho hx, ← hsee8, ← hsee' o h3.1 h3.2, sees_ovl JJ'.C o]
              simp only [seesF, lk]
              rw [hrd5 o h3.1 h3.2]
              have e1 : rdB (fresh S'.last) o = rdB S' o := by unfold rdB; rw [JJ'.L.calm]; rfl
              rw [e1]
              rfl
            have hyl : ys.length = n := I.yl.trans hol
            clear TC DC t5 hEC JJ JJ' I
            go_wp2_with fail
            refine (holdsG J5 C5.on T5 hol hyl hn h2 hos hse5 (B := w.heap.size) BD.size gBD (by omega)).mono ?_
            rintro e' wE ⟨rfl, BE0, JE, TE⟩
            have BE := BD.trans BE0
            have cE0 : wE.cell? ⟨tw, 0, none⟩ = some (.pointer (some ⟨db, 0, none⟩)) := by simp [World.cell?, TE.box]
            clear J5 T5 BE0
            go_wp2_with fail
            refine (arm_any JE.D 1 (by omega)).mono ?_
            rintro e' wF ⟨rfl, qF⟩
            have JF := JE.same qF
            have TF := TE.kp (Kp.same qF.2)
            have BF := BE.trans (qF.2.below gBD BE.size)
            have hof : (armed S5 1).off = false := by unfold armed; rw [if_neg (by omega), if_neg (by simp [C5.on])]; exact C5.on
            clear JE TE qF cE0
            go_wp2_with fail
            refine (check_none JF hof).mono ?_
            rintro e' wG ⟨rfl, qG⟩
            have JG := JF.same qG
            have TG := TF.kp (Kp.same qG.2)
            have BG := BF.trans (qG.2.below gBD BF.size)
            clear JF TF qG
            go_wp2_with fail
            refine (state_ok JG.J JG.A).mono ?_
            rintro e' wH ⟨rfl, dh, rfl⟩
            have bdh : Below wG.heap.size wG (wG.drewN dh) := ⟨rfl, rfl, rfl, Nat.le_refl _, fun _ _ => rfl⟩
            have JH := JG.below bdh
            have TH := TG.kp (Kp.below bdh)
            have BH := BG.trans (bdh.mono BG.size)
            obtain ⟨wH, hwH⟩ : ∃ wH, wG.drewN dh = wH := ⟨_, rfl⟩
            rw [hwH] at JH TH BH ⊢
            clear JG TG hwH bdh
            have cH0 : wH.cell? ⟨tw, 0, none⟩ = some (.pointer (some ⟨db, 0, none⟩)) := by simp [World.cell?, TH.box]
            have hsqi : (seq : Int) ≤ seq' := by omega
            go_wp2_with (go_at_call 15; refine (num7 _ _).mono ?_; rintro e' wn ⟨rfl, hwn⟩; subst wn)
            refine (power_any JH.D).mono ?_
            rintro e' wI ⟨rfl, qI⟩
            have TI := TH.kp (Kp.same qI.2)
            have cI2 : wI.cell? ⟨tw, 2, none⟩ = some (.int .i64 (sz : Nat)) := by simp [World.cell?, TI.box]
            have BI := BH.trans (qI.2.below gBD BH.size)
            rw [hof]
            clear JH TH cH0 qI
            go_wp2_with fail
            go_ret
            exact ⟨rfl, BI⟩
      · go_wp2_with fail
        refine (Tx.begin JJ.J C.on fa).mono ?_
        rintro e' w4 ⟨tb, wm, rfl, l1, l2, X4, t4⟩
        have T4 := Tr.kp (Kp.turns t4 (fun x cs ty fz g hx ht e => e.elim g (jty_jb JJ.J.J hx ht)))
        have sr := Br.size
        have B4 := Br.trans (t4.below (fun i r => r.elim (gB i) (fun e => by omega)) sr)
        have h2 : st + sz ≤ k := Hsh.out.2.2.2.2
        go_wp2_with fail
        refine (fillG X4 T4 hol (hxl.trans hol) hn C.on h2 hos hnd hsee w.heap.size B4 (Nat.le_refl _) gB (by omega) (by omega) bo np pc ps hnp hP (Nat.le_refl _)).mono ?_
        rintro e' w5 ⟨ns, m, f', nv, ys, sn, ks, rfl, I⟩
        obtain ⟨gn, cn, rfl⟩ : ∃ g c, nv = .slice (some ⟨g, 0, none⟩) n c := by
          have r := I.W.row
          rw [I.yl, hol] at r
          obtain ⟨g, c, e, _⟩ := (row_nat r).resolve_left (fun q => by omega)
          exact ⟨g, c, e⟩
        have B5 : Below w.heap.size w w5 := B4.trans I.bw
        clear T4 X4 t4 B4
        go_wp2_with fail
        refine (blocks_ok I.X.T I.X.M (by have := I.few; omega)).mono ?_
        rintro e' w6 ⟨gb6, cb6, rfl, rb6, b6⟩
        have X6 := I.X.below b6
        have T6 := I.T.kp (Kp.below b6)
        have W6 := I.W.kp (Kp.below b6)
        have s5 := B5.size
        have B6 := B5.trans (b6.mono s5)
        clear rb6 b6
        go_wp2_with fail
        refine (state_ok X6.J X6.A).mono ?_
        rintro e' w7 ⟨rfl, dn, rfl⟩
        have bdn : Below w6.heap.size w6 (w6.drewN dn) := ⟨rfl, rfl, rfl, Nat.le_refl _, fun _ _ => rfl⟩
        have X7 := X6.below bdn
        have T7 := T6.kp (Kp.below bdn)
        have W7 := W6.kp (Kp.below bdn)
        have B7 := B6.trans (bdn.mono B6.size)
        obtain ⟨w7, hw7⟩ : ∃ w7, w6.drewN dn = w7 := ⟨_, rfl⟩
        rw [hw7] at X7 T7 W7 B7 ⊢
        clear X6 T6 W6 B6 hw7 bdn
        go_wp2_with fail
        refine (seq_ok X7.T X7.J).mono ?_
        rintro e' wn ⟨rfl, hwn⟩
        subst wn
        have hf0 := JJ.L.f0
        have hfr := JJ.L.fr
        have n1 : ¬ free < 0 := by omega
        have n2 : ¬ (sz : Int) - 1 < free := by omega
        have n3 : ¬ (a.length : Int) < 0 := by omega
        have hm24 := I.few
        have hla := low_len X7.A.ris (JJ.O.low JJ.L.good.top)
        have c0 : w7.cell? ⟨tw, 0, none⟩ = some (.pointer (some ⟨db, 0, none⟩)) := by simp [World.cell?, T7.box]
        have c2 : w7.cell? ⟨tw, 2, none⟩ = some (.int .i64 (sz : Nat)) := by simp [World.cell?, T7.box]
        have hzb : (sz : Int) ≤ 200 := by have := Hsh.out; omega
        by_cases hm0 : m.length = 0
        · have hmi : (m.length : Int) = 0 := by omega
          have hmn : m = [] := List.eq_nil_of_length_eq_zero hm0
          have hcost : costC m a free = 0 := by unfold costC; rw [if_pos hmn]
          by_cases hf2 : free < 2
          · as_aux_lemma =>
            have hcb : costC m a free ≤ 10000 := by rw [hcost]; omega
            go_wp2_with fail
            refine (arm_any X7.D (1 : Int) (by omega)).mono ?_
            rintro e' w8 ⟨rfl, q8⟩
            rw [show (1 : Int) = ((costC m a free + 1 : Nat) : Int) by rw [hcost]; omega, armed_on C.on] at q8
            obtain ⟨S8, hS8⟩ : ∃ S8 : DevS, { S with fuse := costC m a free + 1 } = S8 := ⟨_, rfl⟩
            rw [hS8] at q8
            have L8 : Lg S8 k st sz seq place free T seq0 place0 := by
              rw [← hS8]
              exact JJ.L.like rfl JJ.L.calm (by show costC m a free + 1 ≤ _; omega)
            have la8 : Lasts S8 (costC m a free) := by
              rw [← hS8]
              exact ⟨C.on, Or.inr (Nat.lt_succ_self _)⟩
            have hf8 : S8.fuse = costC m a free + 1 := by rw [← hS8]
            have hsee8 : ∀ o, seesF S8 m f' a fa o = seesF S m f' a fa o := fun o => by rw [← hS8]; rfl
            have X8 := X7.armed q8
            have T8 := T7.kp (Kp.same q8.2)
            have W8 := W7.kp (Kp.same q8.2)
            have s7 := B7.size
            have B8 := B7.trans (q8.2.below gB s7)
            clear X7 T7 W7 q8 c0 c2 hS8
            go_wp2_with fail
            refine (commitG X8 L8 JJ.C JJ.O JJ.nb (fun p hp => hos p.1 (I.mo p hp)) I.few la8 (by omega) (by omega)).mono ?_
            rintro e' w9 ⟨rfl, R⟩
            obtain ⟨td9, tr9, S', N', G', seq', place', free', bm', nd', a', fa', T', q0', p0', JJ', hG', hbm', hN', hsq1, hsq2, hoff, hfz, hsee'⟩ := R
            have K9 := Kp.commit X8 tr9
            have T9 := T8.to K9 hG'
            have W9 := W8.to K9 hG'
            have s8 := B8.size
            have B9 := B8.trans (tr9.below (fun i r => by
              rcases r with r | r | r | r
              · exact gB i r
              · omega
              · omega
              · omega) s8)
            have hfu : S'.fuse = 1 := by rw [hfz, hf8]; omega
            have gB' : ∀ i, G' i → w.heap.size ≤ i := fun i hi => (hG' i hi).elim (gB i) (fun r => by omega)
            have c9 : w9.cell? ⟨tw, 0, none⟩ = some (.pointer (some ⟨db, 0, none⟩)) := by simp [World.cell?, T9.box]
            clear T8 W8 K9 tr9 td9 X8
            go_wp2_with fail
            refine (flush_any JJ'.J.D (by omega)).mono ?_
            rintro e' wA ⟨rfl, DA, tA⟩
            have hbo : (burnt S').off = true := by unfold burnt; rw [if_neg (by omega)]; simp [hfu]
            have hfe : flE S' = 3 := by unfold flE; rw [if_pos hbo]
            have hfs : flS S' = burnt S' := by unfold flS; rw [if_pos hbo]
            rw [hfe]
            rw [hfs] at DA
            have hgr : ∀ i, grow G' w9 wA i → G' i ∨ w9.heap.size ≤ i := fun i hi => hi.imp id (fun r => r.1)
            have TA := T9.to (Kp.same tA) hgr
            have WA := W9.to (Kp.same tA) hgr
            have s9 := B9.size
            have BA := B9.trans (tA.below gB' s9)
            have gBA : ∀ i, grow G' w9 wA i → w.heap.size ≤ i := fun i hi => (hgr i hi).elim (gB' i) (fun r => by omega)
            clear T9 W9 tA c9 hgr
            obtain ⟨GA, hGA⟩ : ∃ GA, grow G' w9 wA = GA := ⟨_, rfl⟩
            rw [hGA] at DA TA WA gBA
            clear hGA
            have cA4 : wA.cell? ⟨tw, 4, none⟩ = some wv1 := by simp [World.cell?, TA.box]
            have cAf : wA.frozen? ⟨tw, 4, none⟩ = false := by simp [World.frozen?, TA.box]
            have cA0 : wA.cell? ⟨tw, 0, none⟩ = some (.pointer (some ⟨db, 0, none⟩)) := by simp [World.cell?, TA.box]
            have HTB : Hid (Tg (wA.setCell ⟨tw, 4, none⟩ (.slice (some ⟨gn, 0, none⟩) n cn)) GA tw db st sz ov (.slice (some ⟨gn, 0, none⟩) n cn) os ys ∧ Turns (fun i => i = tw) wA (wA.setCell ⟨tw, 4, none⟩ (.slice (some ⟨gn, 0, none⟩) n cn))) := TA.setWant WA
            have lA : (burnt S').last = S'.last := by unfold burnt; split <;> rfl
            go_wp2_with (go_at_call 15; refine (num7 _ _).mono ?_; rintro e' wn ⟨rfl, hwn⟩; subst wn)
            obtain ⟨TB, tB⟩ := HTB.out
            clear HTB
            have DB := DA.turns tB (fun i hi e => TB.gt (e ▸ hi))
            have BB := BA.trans (tB.below (fun i e => by omega) BA.size)
            obtain ⟨wB, hwB⟩ : ∃ wB, wA.setCell ⟨tw, 4, none⟩ (.slice (some ⟨gn, 0, none⟩) n cn) = wB := ⟨_, rfl⟩
            rw [hwB] at TB DB BB ⊢
            clear DA TA WA tB cA4 cAf cA0 hwB BA
            refine (crash_any DB none 0 0 [] (KLies.nil wB) (by omega) (fun ad had => by cases had) (by omega)).mono ?_
            rintro e' wC ⟨rfl, DC, tC⟩
            have hcr : crashed (burnt S') [] = fresh S'.last := by
              unfold crashed fresh
              have : kept (burnt S').pend [] = [] := by cases (burnt S').pend <;> rfl
              rw [this, lA]
              rfl
            rw [hcr] at DC
            have hgr : ∀ i, grow GA wB wC i → GA i ∨ wB.heap.size ≤ i := fun i hi => hi.imp id (fun r => r.1)
            have TC := TB.to (Kp.same tC) hgr
            have sB := BB.size
            have BC := BB.trans (tC.below gBA sB)
            have gBC : ∀ i, grow GA wB wC i → w.heap.size ≤ i := fun i hi => (hgr i hi).elim (gBA i) (fun r => by omega)
            clear TB DB tC hgr
            obtain ⟨GC, hGC⟩ : ∃ GC, grow GA wB wC = GC := ⟨_, rfl⟩
            rw [hGC] at DC TC gBC
            clear hGC
            have LC : Lg (fresh S'.last) k st sz seq' place' free' T' q0' p0' := JJ'.L.like rfl rfl (by show (0 : Nat) ≤ _; omega)
            have hEC : ∀ w', Turns GC wC w' → Errs w' er := fun w' t => hE.below (BC.trans (t.below gBC BC.size)) (Nat.le_refl _)
            go_wp2_with fail
            refine (openG TC DC LC ⟨rfl, rfl⟩ (by omega) (by omega) hEC).mono ?_
            rintro e' wD ⟨jb2, bm2, rfl, lj2, lb2, hO⟩
            obtain ⟨⟨S5, N5, G5, J5, L5, C5, hN5, hrd5, hG5, T5⟩, t5⟩ := hO
            have sC := BC.size
            have BD := BC.trans (t5.below gBC sC)
            have gBD : ∀ i, G5 i → w.heap.size ≤ i := fun i hi => (hG5 i hi).elim (gBC i) (fun r => by omega)
            have hse5 : ∀ (i o : Nat) (x : It), os[i]? = some o → ys[i]? = some x → x.bs = seesF S5 [] (fun _ => []) [] (fun _ => []) o := fun i o x ho hx => by
              have h3 := hos o (List.mem_of_getElem? ho)
              rw [I.see i o x ho hx, ← hsee8, ← hsee' o h3.1 h3.2, sees_ovl JJ'.C o]
              simp only [seesF, lk]
              rw [hrd5 o h3.1 h3.2]
              have e1 : rdB (fresh S'.last) o = rdB S' o := by unfold rdB; rw [JJ'.L.calm]; rfl
              rw [e1]
              rfl
            have hyl : ys.length = n := I.yl.trans hol
            clear TC DC t5 hEC JJ JJ' I
            go_wp2_with fail
            refine (holdsG J5 C5.on T5 hol hyl hn h2 hos hse5 (B := w.heap.size) BD.size gBD (by omega)).mono ?_
            rintro e' wE ⟨rfl, BE0, JE, TE⟩
            have BE := BD.trans BE0
            have cE0 : wE.cell? ⟨tw, 0, none⟩ = some (.pointer (some ⟨db, 0, none⟩)) := by simp [World.cell?, TE.box]
            clear J5 T5 BE0
            go_wp2_with fail
            refine (arm_any JE.D 1 (by omega)).mono ?_
            rintro e' wF ⟨rfl, qF⟩
            have JF := JE.same qF
            have TF := TE.kp (Kp.same qF.2)
            have BF := BE.trans (qF.2.below gBD BE.size)
            have hof : (armed S5 1).off = false := by unfold armed; rw [if_neg (by omega), if_neg (by simp [C5.on])]; exact C5.on
            clear JE TE qF cE0
            go_wp2_with fail
            refine (check_none JF hof).mono ?_
            rintro e' wG ⟨rfl, qG⟩
            have JG := JF.same qG
            have TG := TF.kp (Kp.same qG.2)
            have BG := BF.trans (qG.2.below gBD BF.size)
            clear JF TF qG
            go_wp2_with fail
            refine (state_ok JG.J JG.A).mono ?_
            rintro e' wH ⟨rfl, dh, rfl⟩
            have bdh : Below wG.heap.size wG (wG.drewN dh) := ⟨rfl, rfl, rfl, Nat.le_refl _, fun _ _ => rfl⟩
            have JH := JG.below bdh
            have TH := TG.kp (Kp.below bdh)
            have BH := BG.trans (bdh.mono BG.size)
            obtain ⟨wH, hwH⟩ : ∃ wH, wG.drewN dh = wH := ⟨_, rfl⟩
            rw [hwH] at JH TH BH ⊢
            clear JG TG hwH bdh
            have cH0 : wH.cell? ⟨tw, 0, none⟩ = some (.pointer (some ⟨db, 0, none⟩)) := by simp [World.cell?, TH.box]
            have hsqi : (seq : Int) ≤ seq' := by omega
            go_wp2_with (go_at_call 15; refine (num7 _ _).mono ?_; rintro e' wn ⟨rfl, hwn⟩; subst wn)
            refine (power_any JH.D).mono ?_
            rintro e' wI ⟨rfl, qI⟩
            have TI := TH.kp (Kp.same qI.2)
            have cI2 : wI.cell? ⟨tw, 2, none⟩ = some (.int .i64 (sz : Nat)) := by simp [World.cell?, TI.box]
            have BI := BH.trans (qI.2.below gBD BH.size)
            rw [hof]
            clear JH TH cH0 qI
            go_wp2_with fail
            go_ret
            exact ⟨rfl, BI⟩
          · as_aux_lemma =>
            have hcb : costC m a free ≤ 10000 := by rw [hcost]; omega
            go_wp2_with fail
            refine (arm_any X7.D (1 : Int) (by omega)).mono ?_
            rintro e' w8 ⟨rfl, q8⟩
            rw [show (1 : Int) = ((costC m a free + 1 : Nat) : Int) by rw [hcost]; omega, armed_on C.on] at q8
            obtain ⟨S8, hS8⟩ : ∃ S8 : DevS, { S with fuse := costC m a free + 1 } = S8 := ⟨_, rfl⟩
            rw [hS8] at q8
            have L8 : Lg S8 k st sz seq place free T seq0 place0 := by
              rw [← hS8]
              exact JJ.L.like rfl JJ.L.calm (by show costC m a free + 1 ≤ _; omega)
            have la8 : Lasts S8 (costC m a free) := by
              rw [← hS8]
              exact ⟨C.on, Or.inr (Nat.lt_succ_self _)⟩
            have hf8 : S8.fuse = costC m a free + 1 := by rw [← hS8]
            have hsee8 : ∀ o, seesF S8 m f' a fa o = seesF S m f' a fa o := fun o => by rw [← hS8]; rfl
            have X8 := X7.armed q8
            have T8 := T7.kp (Kp.same q8.2)
            have W8 := W7.kp (Kp.same q8.2)
            have s7 := B7.size
            have B8 := B7.trans (q8.2.below gB s7)
            clear X7 T7 W7 q8 c0 c2 hS8
            go_wp2_with fail
            refine (commitG X8 L8 JJ.C JJ.O JJ.nb (fun p hp => hos p.1 (I.mo p hp)) I.few la8 (by omega) (by omega)).mono ?_
            rintro e' w9 ⟨rfl, R⟩
            obtain ⟨td9, tr9, S', N', G', seq', place', free', bm', nd', a', fa', T', q0', p0', JJ', hG', hbm', hN', hsq1, hsq2, hoff, hfz, hsee'⟩ := R
            have K9 := Kp.commit X8 tr9
            have T9 := T8.to K9 hG'
            have W9 := W8.to K9 hG'
            have s8 := B8.size
            have B9 := B8.trans (tr9.below (fun i r => by
              rcases r with r | r | r | r
              · exact gB i r
              · omega
              · omega
              · omega) s8)
            have hfu : S'.fuse = 1 := by rw [hfz, hf8]; omega
            have gB' : ∀ i, G' i → w.heap.size ≤ i := fun i hi => (hG' i hi).elim (gB i) (fun r => by omega)
            have c9 : w9.cell? ⟨tw, 0, none⟩ = some (.pointer (some ⟨db, 0, none⟩)) := by simp [World.cell?, T9.box]
            clear T8 W8 K9 tr9 td9 X8
            go_wp2_with fail
            refine (flush_any JJ'.J.D (by omega)).mono ?_
            rintro e' wA ⟨rfl, DA, tA⟩
            have hbo : (burnt S').off = true := by unfold burnt; rw [if_neg (by omega)]; simp [hfu]
            have hfe : flE S' = 3 := by unfold flE; rw [if_pos hbo]
            have hfs : flS S' = burnt S' := by unfold flS; rw [if_pos hbo]
            rw [hfe]
            rw [hfs] at DA
            have hgr : ∀ i, grow G' w9 wA i → G' i ∨ w9.heap.size ≤ i := fun i hi => hi.imp id (fun r => r.1)
            have TA := T9.to (Kp.same tA) hgr
            have WA := W9.to (Kp.same tA) hgr
            have s9 := B9.size
            have BA := B9.trans (tA.below gB' s9)
            have gBA : ∀ i, grow G' w9 wA i → w.heap.size ≤ i := fun i hi => (hgr i hi).elim (gB' i) (fun r => by omega)
            clear T9 W9 tA c9 hgr
            obtain ⟨GA, hGA⟩ : ∃ GA, grow G' w9 wA = GA := ⟨_, rfl⟩
            rw [hGA] at DA TA WA gBA
            clear hGA
            have cA4 : wA.cell? ⟨tw, 4, none⟩ = some wv1 := by simp [World.cell?, TA.box]
            have cAf : wA.frozen? ⟨tw, 4, none⟩ = false := by simp [World.frozen?, TA.box]
            have cA0 : wA.cell? ⟨tw, 0, none⟩ = some (.pointer (some ⟨db, 0, none⟩)) := by simp [World.cell?, TA.box]
            have HTB : Hid (Tg (wA.setCell ⟨tw, 4, none⟩ (.slice (some ⟨gn, 0, none⟩) n cn)) GA tw db st sz ov (.slice (some ⟨gn, 0, none⟩) n cn) os ys ∧ Turns (fun i => i = tw) wA (wA.setCell ⟨tw, 4, none⟩ (.slice (some ⟨gn, 0, none⟩) n cn))) := TA.setWant WA
            have lA : (burnt S').last = S'.last := by unfold burnt; split <;> rfl
            go_wp2_with (go_at_call 15; refine (num7 _ _).mono ?_; rintro e' wn ⟨rfl, hwn⟩; subst wn)
            obtain ⟨TB, tB⟩ := HTB.out
            clear HTB
            have DB := DA.turns tB (fun i hi e => TB.gt (e ▸ hi))
            have BB := BA.trans (tB.below (fun i e => by omega) BA.size)
            obtain ⟨wB, hwB⟩ : ∃ wB, wA.setCell ⟨tw, 4, none⟩ (.slice (some ⟨gn, 0, none⟩) n cn) = wB := ⟨_, rfl⟩
            rw [hwB] at TB DB BB ⊢
            clear DA TA WA tB cA4 cAf cA0 hwB BA
            refine (crash_any DB none 0 0 [] (KLies.nil wB) (by omega) (fun ad had => by cases had) (by omega)).mono ?_
            rintro e' wC ⟨rfl, DC, tC⟩
            have hcr : crashed (burnt S') [] = fresh S'.last := by
              unfold crashed fresh
              have : kept (burnt S').pend [] = [] := by cases (burnt S').pend <;> rfl
              rw [this, lA]
              rfl
            rw [hcr] at DC
            have hgr : ∀ i, grow GA wB wC i → GA i ∨ wB.heap.size ≤ i := fun i hi => hi.imp id (fun r => r.1)
            have TC := TB.to (Kp.same tC) hgr
            have sB := BB.size
            have BC := BB.trans (tC.below gBA sB)
            have gBC : ∀ i, grow GA wB wC i → w.heap.size ≤ i := fun i hi => (hgr i hi).elim (gBA i) (fun r => by omega)
            clear TB DB tC hgr
            obtain ⟨GC, hGC⟩ : ∃ GC, grow GA wB wC = GC := ⟨_, rfl⟩
            rw [hGC] at DC TC gBC
            clear hGC
            have LC : Lg (fresh S'.last) k st sz seq' place' free' T' q0' p0' := JJ'.L.like rfl rfl (by show (0 : Nat) ≤ _; omega)
            have hEC : ∀ w', Turns GC wC w' → Errs w' er := fun w' t => hE.below (BC.trans (t.below gBC BC.size)) (Nat.le_refl _)
            go_wp2_with fail
            refine (openG TC DC LC ⟨rfl, rfl⟩ (by omega) (by omega) hEC).mono ?_
            rintro e' wD ⟨jb2, bm2, rfl, lj2, lb2, hO⟩
            obtain ⟨⟨S5, N5, G5, J5, L5, C5, hN5, hrd5, hG5, T5⟩, t5⟩ := hO
            have sC := BC.size
            have BD := BC.trans (t5.below gBC sC)
            have gBD : ∀ i, G5 i → w.heap.size ≤ i := fun i hi => (hG5 i hi).elim (gBC i) (fun r => by omega)
            have hse5 : ∀ (i o : Nat) (x : It), os[i]? = some o → ys[i]? = some x → x.bs = seesF S5 [] (fun _ => []) [] (fun _ => []) o := fun i o x ho hx => by
              have h3 := hos o (List.mem_of_getElem? ho)
              rw [I.see i o x ho hx, ← hsee8, ← hsee' o h3.1 h3.2, sees_ovl JJ'.C o]
              simp only [seesF, lk]
              rw [hrd5 o h3.1 h3.2]
              have e1 : rdB (fresh S'.last) o = rdB S' o := by unfold rdB; rw [JJ'.L.calm]; rfl
              rw [e1]
              rfl
            have hyl : ys.length = n := I.yl.trans hol
            clear TC DC t5 hEC JJ JJ' I
            go_wp2_with fail
            refine (holdsG J5 C5.on T5 hol hyl hn h2 hos hse5 (B := w.heap.size) BD.size gBD (by omega)).mono ?_
            rintro e' wE ⟨rfl, BE0, JE, TE⟩
            have BE := BD.trans BE0
            have cE0 : wE.cell? ⟨tw, 0, none⟩ = some (.pointer (some ⟨db, 0, none⟩)) := by simp [World.cell?, TE.box]
            clear J5 T5 BE0
            go_wp2_with fail
            refine (arm_any JE.D 1 (by omega)).mono ?_
            rintro e' wF ⟨rfl, qF⟩
            have JF := JE.same qF
            have TF := TE.kp (Kp.same qF.2)
            have BF := BE.trans (qF.2.below gBD BE.size)
            have hof : (armed S5 1).off = false := by unfold armed; rw [if_neg (by omega), if_neg (by simp [C5.on])]; exact C5.on
            clear JE TE qF cE0
            go_wp2_with fail
            refine (check_none JF hof).mono ?_
            rintro e' wG ⟨rfl, qG⟩
            have JG := JF.same qG
            have TG := TF.kp (Kp.same qG.2)
            have BG := BF.trans (qG.2.below gBD BF.size)
            clear JF TF qG
            go_wp2_with fail
            refine (state_ok JG.J JG.A).mono ?_
            rintro e' wH ⟨rfl, dh, rfl⟩
            have bdh : Below wG.heap.size wG (wG.drewN dh) := ⟨rfl, rfl, rfl, Nat.le_refl _, fun _ _ => rfl⟩
            have JH := JG.below bdh
            have TH := TG.kp (Kp.below bdh)
            have BH := BG.trans (bdh.mono BG.size)
            obtain ⟨wH, hwH⟩ : ∃ wH, wG.drewN dh = wH := ⟨_, rfl⟩
            rw [hwH] at JH TH BH ⊢
            clear JG TG hwH bdh
            have cH0 : wH.cell? ⟨tw, 0, none⟩ = some (.pointer (some ⟨db, 0, none⟩)) := by simp [World.cell?, TH.box]
            have hsqi : (seq : Int) ≤ seq' := by omega
            go_wp2_with (go_at_call 15; refine (num7 _ _).mono ?_; rintro e' wn ⟨rfl, hwn⟩; subst wn)
            refine (power_any JH.D).mono ?_
            rintro e' wI ⟨rfl, qI⟩
            have TI := TH.kp (Kp.same qI.2)
            have cI2 : wI.cell? ⟨tw, 2, none⟩ = some (.int .i64 (sz : Nat)) := by simp [World.cell?, TI.box]
            have BI := BH.trans (qI.2.below gBD BH.size)
            rw [hof]
            clear JH TH cH0 qI
            go_wp2_with fail
            go_ret
            exact ⟨rfl, BI⟩
        · have hmi : ¬ (m.length : Int) = 0 := by omega
          have hmn : ¬ m = [] := fun e => hm0 (by rw [e]; rfl)
          by_cases hfull : free < (m.length : Int) + 2
          · have hcost : costC m a free = m.length + 4 + (a.length + 3) := by unfold costC; rw [if_neg hmn, if_pos hfull]
            as_aux_lemma =>
            have hcb : costC m a free ≤ 10000 := by rw [hcost]; omega
            go_wp2_with fail
            refine (arm_any X7.D ((m.length : Int) + 4 + (a.length : Int) + 3 + 1) (by omega)).mono ?_
            rintro e' w8 ⟨rfl, q8⟩
            rw [show ((m.length : Int) + 4 + (a.length : Int) + 3 + 1) = ((costC m a free + 1 : Nat) : Int) by rw [hcost]; omega, armed_on C.on] at q8
            obtain ⟨S8, hS8⟩ : ∃ S8 : DevS, { S with fuse := costC m a free + 1 } = S8 := ⟨_, rfl⟩
            rw [hS8] at q8
            have L8 : Lg S8 k st sz seq place free T seq0 place0 := by
              rw [← hS8]
              exact JJ.L.like rfl JJ.L.calm (by show costC m a free + 1 ≤ _; omega)
            have la8 : Lasts S8 (costC m a free) := by
              rw [← hS8]
              exact ⟨C.on, Or.inr (Nat.lt_succ_self _)⟩
            have hf8 : S8.fuse = costC m a free + 1 := by rw [← hS8]
            have hsee8 : ∀ o, seesF S8 m f' a fa o = seesF S m f' a fa o := fun o => by rw [← hS8]; rfl
            have X8 := X7.armed q8
            have T8 := T7.kp (Kp.same q8.2)
            have W8 := W7.kp (Kp.same q8.2)
            have s7 := B7.size
            have B8 := B7.trans (q8.2.below gB s7)
            clear X7 T7 W7 q8 c0 c2 hS8
            go_wp2_with fail
            refine (commitG X8 L8 JJ.C JJ.O JJ.nb (fun p hp => hos p.1 (I.mo p hp)) I.few la8 (by omega) (by omega)).mono ?_
            rintro e' w9 ⟨rfl, R⟩
            obtain ⟨td9, tr9, S', N', G', seq', place', free', bm', nd', a', fa', T', q0', p0', JJ', hG', hbm', hN', hsq1, hsq2, hoff, hfz, hsee'⟩ := R
            have K9 := Kp.commit X8 tr9
            have T9 := T8.to K9 hG'
            have W9 := W8.to K9 hG'
            have s8 := B8.size
            have B9 := B8.trans (tr9.below (fun i r => by
              rcases r with r | r | r | r
              · exact gB i r
              · omega
              · omega
              · omega) s8)
            have hfu : S'.fuse = 1 := by rw [hfz, hf8]; omega
            have gB' : ∀ i, G' i → w.heap.size ≤ i := fun i hi => (hG' i hi).elim (gB i) (fun r => by omega)
            have c9 : w9.cell? ⟨tw, 0, none⟩ = some (.pointer (some ⟨db, 0, none⟩)) := by simp [World.cell?, T9.box]
            clear T8 W8 K9 tr9 td9 X8
            go_wp2_with fail
            refine (flush_any JJ'.J.D (by omega)).mono ?_
            rintro e' wA ⟨rfl, DA, tA⟩
            have hbo : (burnt S').off = true := by unfold burnt; rw [if_neg (by omega)]; simp [hfu]
            have hfe : flE S' = 3 := by unfold flE; rw [if_pos hbo]
            have hfs : flS S' = burnt S' := by unfold flS; rw [if_pos hbo]
            rw [hfe]
            rw [hfs] at DA
            have hgr : ∀ i, grow G' w9 wA i → G' i ∨ w9.heap.size ≤ i := fun i hi => hi.imp id (fun r => r.1)
            have TA := T9.to (Kp.same tA) hgr
            have WA := W9.to (Kp.same tA) hgr
            have s9 := B9.size
            have BA := B9.trans (tA.below gB' s9)
            have gBA : ∀ i, grow G' w9 wA i → w.heap.size ≤ i := fun i hi => (hgr i hi).elim (gB' i) (fun r => by omega)
            clear T9 W9 tA c9 hgr
            obtain ⟨GA, hGA⟩ : ∃ GA, grow G' w9 wA = GA := ⟨_, rfl⟩
            rw [hGA] at DA TA WA gBA
            clear hGA
            have cA4 : wA.cell? ⟨tw, 4, none⟩ = some wv1 := by simp [World.cell?, TA.box]
            have cAf : wA.frozen? ⟨tw, 4, none⟩ = false := by simp [World.frozen?, TA.box]
            have cA0 : wA.cell? ⟨tw, 0, none⟩ = some (.pointer (some ⟨db, 0, none⟩)) := by simp [World.cell?, TA.box]
            have HTB : Hid (Tg (wA.setCell ⟨tw, 4, none⟩ (.slice (some ⟨gn, 0, none⟩) n cn)) GA tw db st sz ov (.slice (some ⟨gn, 0, none⟩) n cn) os ys ∧ Turns (fun i => i = tw) wA (wA.setCell ⟨tw, 4, none⟩ (.slice (some ⟨gn, 0, none⟩) n cn))) := TA.setWant WA
            have lA : (burnt S').last = S'.last := by unfold burnt; split <;> rfl
            go_wp2_with (go_at_call 15; refine (num7 _ _).mono ?_; rintro e' wn ⟨rfl, hwn⟩; subst wn)
            obtain ⟨TB, tB⟩ := HTB.out
            clear HTB
            have DB := DA.turns tB (fun i hi e => TB.gt (e ▸ hi))
            have BB := BA.trans (tB.below (fun i e => by omega) BA.size)
            obtain ⟨wB, hwB⟩ : ∃ wB, wA.setCell ⟨tw, 4, none⟩ (.slice (some ⟨gn, 0, none⟩) n cn) = wB := ⟨_, rfl⟩
            rw [hwB] at TB DB BB ⊢
            clear DA TA WA tB cA4 cAf cA0 hwB BA
            refine (crash_any DB none 0 0 [] (KLies.nil wB) (by omega) (fun ad had => by cases had) (by omega)).mono ?_
            rintro e' wC ⟨rfl, DC, tC⟩
            have hcr : crashed (burnt S') [] = fresh S'.last := by
              unfold crashed fresh
              have : kept (burnt S').pend [] = [] := by cases (burnt S').pend <;> rfl
              rw [this, lA]
              rfl
            rw [hcr] at DC
            have hgr : ∀ i, grow GA wB wC i → GA i ∨ wB.heap.size ≤ i := fun i hi => hi.imp id (fun r => r.1)
            have TC := TB.to (Kp.same tC) hgr
            have sB := BB.size
            have BC := BB.trans (tC.below gBA sB)
            have gBC : ∀ i, grow GA wB wC i → w.heap.size ≤ i := fun i hi => (hgr i hi).elim (gBA i) (fun r => by omega)
            clear TB DB tC hgr
            obtain ⟨GC, hGC⟩ : ∃ GC, grow GA wB wC = GC := ⟨_, rfl⟩
            rw [hGC] at DC TC gBC
            clear hGC
            have LC : Lg (fresh S'.last) k st sz seq' place' free' T' q0' p0' := JJ'.L.like rfl rfl (by show (0 : Nat) ≤ _; omega)
            have hEC : ∀ w', Turns GC wC w' → Errs w' er := fun w' t => hE.below (BC.trans (t.below gBC BC.size)) (Nat.le_refl _)
            go_wp2_with fail
            refine (openG TC DC LC ⟨rfl, rfl⟩ (by omega) (by omega) hEC).mono ?_
            rintro e' wD ⟨jb2, bm2, rfl, lj2, lb2, hO⟩
            obtain ⟨⟨S5, N5, G5, J5, L5, C5, hN5, hrd5, hG5, T5⟩, t5⟩ := hO
            have sC := BC.size
            have BD := BC.trans (t5.below gBC sC)
            have gBD : ∀ i, G5 i → w.heap.size ≤ i := fun i hi => (hG5 i hi).elim (gBC i) (fun r => by omega)
            have hse5 : ∀ (i o : Nat) (x : It), os[i]? = some o → ys[i]? = some x → x.bs = seesF S5 [] (fun _ => []) [] (fun _ => []) o := fun i o x ho hx => by
              have h3 := hos o (List.mem_of_getElem? ho)
              rw [I.see i o x ho hx, ← hsee8, ← hsee' o h3.1 h3.2, sees_ovl JJ'.C o]
              simp only [seesF, lk]
              rw [hrd5 o h3.1 h3.2]
              have e1 : rdB (fresh S'.last) o = rdB S' o := by unfold rdB; rw [JJ'.L.calm]; rfl
              rw [e1]
              rfl
            have hyl : ys.length = n := I.yl.trans hol
            clear TC DC t5 hEC JJ JJ' I
            go_wp2_with fail
            refine (holdsG J5 C5.on T5 hol hyl hn h2 hos hse5 (B := w.heap.size) BD.size gBD (by omega)).mono ?_
            rintro e' wE ⟨rfl, BE0, JE, TE⟩
            have BE := BD.trans BE0
            have cE0 : wE.cell? ⟨tw, 0, none⟩ = some (.pointer (some ⟨db, 0, none⟩)) := by simp [World.cell?, TE.box]
            clear J5 T5 BE0
            go_wp2_with fail
            refine (arm_any JE.D 1 (by omega)).mono ?_
            rintro e' wF ⟨rfl, qF⟩
            have JF := JE.same qF
            have TF := TE.kp (Kp.same qF.2)
            have BF := BE.trans (qF.2.below gBD BE.size)
            have hof : (armed S5 1).off = false := by unfold armed; rw [if_neg (by omega), if_neg (by simp [C5.on])]; exact C5.on
            clear JE TE qF cE0
            go_wp2_with fail
            refine (check_none JF hof).mono ?_
            rintro e' wG ⟨rfl, qG⟩
            have JG := JF.same qG
            have TG := TF.kp (Kp.same qG.2)
            have BG := BF.trans (qG.2.below gBD BF.size)
            clear JF TF qG
            go_wp2_with fail
            refine (state_ok JG.J JG.A).mono ?_
            rintro e' wH ⟨rfl, dh, rfl⟩
            have bdh : Below wG.heap.size wG (wG.drewN dh) := ⟨rfl, rfl, rfl, Nat.le_refl _, fun _ _ => rfl⟩
            have JH := JG.below bdh
            have TH := TG.kp (Kp.below bdh)
            have BH := BG.trans (bdh.mono BG.size)
            obtain ⟨wH, hwH⟩ : ∃ wH, wG.drewN dh = wH := ⟨_, rfl⟩
            rw [hwH] at JH TH BH ⊢
            clear JG TG hwH bdh
            have cH0 : wH.cell? ⟨tw, 0, none⟩ = some (.pointer (some ⟨db, 0, none⟩)) := by simp [World.cell?, TH.box]
            have hsqi : (seq : Int) ≤ seq' := by omega
            go_wp2_with (go_at_call 15; refine (num7 _ _).mono ?_; rintro e' wn ⟨rfl, hwn⟩; subst wn)
            refine (power_any JH.D).mono ?_
            rintro e' wI ⟨rfl, qI⟩
            have TI := TH.kp (Kp.same qI.2)
            have cI2 : wI.cell? ⟨tw, 2, none⟩ = some (.int .i64 (sz : Nat)) := by simp [World.cell?, TI.box]
            have BI := BH.trans (qI.2.below gBD BH.size)
            rw [hof]
            clear JH TH cH0 qI
            go_wp2_with fail
            go_ret
            exact ⟨rfl, BI⟩
          · have hcost : costC m a free = m.length + 4 := by unfold costC; rw [if_neg hmn, if_neg hfull]
            as_aux_lemma =>
            have hcb : costC m a free ≤ 10000 := by rw [hcost]; omega
            go_wp2_with fail
            refine (arm_any X7.D ((m.length : Int) + 4 + 1) (by omega)).mono ?_
            rintro e' w8 ⟨rfl, q8⟩
            rw [show ((m.length : Int) + 4 + 1) = ((costC m a free + 1 : Nat) : Int) by rw [hcost]; omega, armed_on C.on] at q8
            obtain ⟨S8, hS8⟩ : ∃ S8 : DevS, { S with fuse := costC m a free + 1 } = S8 := ⟨_, rfl⟩
            rw [hS8] at q8
            have L8 : Lg S8 k st sz seq place free T seq0 place0 := by
              rw [← hS8]
              exact JJ.L.like rfl JJ.L.calm (by show costC m a free + 1 ≤ _; omega)
            have la8 : Lasts S8 (costC m a free) := by
              rw [← hS8]
              exact ⟨C.on, Or.inr (Nat.lt_succ_self _)⟩
            have hf8 : S8.fuse = costC m a free + 1 := by rw [← hS8]
            have hsee8 : ∀ o, seesF S8 m f' a fa o = seesF S m f' a fa o := fun o => by rw [← hS8]; rfl
            have X8 := X7.armed q8
            have T8 := T7.kp (Kp.same q8.2)
            have W8 := W7.kp (Kp.same q8.2)
            have s7 := B7.size
            have B8 := B7.trans (q8.2.below gB s7)
            clear X7 T7 W7 q8 c0 c2 hS8
            go_wp2_with fail
            refine (commitG X8 L8 JJ.C JJ.O JJ.nb (fun p hp => hos p.1 (I.mo p hp)) I.few la8 (by omega) (by omega)).mono ?_
            rintro e' w9 ⟨rfl, R⟩
            obtain ⟨td9, tr9, S', N', G', seq', place', free', bm', nd', a', fa', T', q0', p0', JJ', hG', hbm', hN', hsq1, hsq2, hoff, hfz, hsee'⟩ := R
            have K9 := Kp.commit X8 tr9
            have T9 := T8.to K9 hG'
            have W9 := W8.to K9 hG'
            have s8 := B8.size
            have B9 := B8.trans (tr9.below (fun i r => by
              rcases r with r | r | r | r
              · exact gB i r
              · omega
              · omega
              · omega) s8)
            have hfu : S'.fuse = 1 := by rw [hfz, hf8]; omega
            have gB' : ∀ i, G' i → w.heap.size ≤ i := fun i hi => (hG' i hi).elim (gB i) (fun r => by omega)
            have c9 : w9.cell? ⟨tw, 0, none⟩ = some (.pointer (some ⟨db, 0, none⟩)) := by simp [World.cell?, T9.box]
            clear T8 W8 K9 tr9 td9 X8
            go_wp2_with fail
            refine (flush_any JJ'.J.D (by omega)).mono ?_
            rintro e' wA ⟨rfl, DA, tA⟩
            have hbo : (burnt S').off = true := by unfold burnt; rw [if_neg (by omega)]; simp [hfu]
            have hfe : flE S' = 3 := by unfold flE; rw [if_pos hbo]
            have hfs : flS S' = burnt S' := by unfold flS; rw [if_pos hbo]
            rw [hfe]
            rw [hfs] at DA
            have hgr : ∀ i, grow G' w9 wA i → G' i ∨ w9.heap.size ≤ i := fun i hi => hi.imp id (fun r => r.1)
            have TA := T9.to (Kp.same tA) hgr
            have WA := W9.to (Kp.same tA) hgr
            have s9 := B9.size
            have BA := B9.trans (tA.below gB' s9)
            have gBA : ∀ i, grow G' w9 wA i → w.heap.size ≤ i := fun i hi => (hgr i hi).elim (gB' i) (fun r => by omega)
            clear T9 W9 tA c9 hgr
            obtain ⟨GA, hGA⟩ : ∃ GA, grow G' w9 wA = GA := ⟨_, rfl⟩
            rw [hGA] at DA TA WA gBA
            clear hGA
            have cA4 : wA.cell? ⟨tw, 4, none⟩ = some wv1 := by simp [World.cell?, TA.box]
            have cAf : wA.frozen? ⟨tw, 4, none⟩ = false := by simp [World.frozen?, TA.box]
            have cA0 : wA.cell? ⟨tw, 0, none⟩ = some (.pointer (some ⟨db, 0, none⟩)) := by simp [World.cell?, TA.box]
            have HTB : Hid (Tg (wA.setCell ⟨tw, 4, none⟩ (.slice (some ⟨gn, 0, none⟩) n cn)) GA tw db st sz ov (.slice (some ⟨gn, 0, none⟩) n cn) os ys ∧ Turns (fun i => i = tw) wA (wA.setCell ⟨tw, 4, none⟩ (.slice (some ⟨gn, 0, none⟩) n cn))) := TA.setWant WA
            have lA : (burnt S').last = S'.last := by unfold burnt; split <;> rfl
            go_wp2_with (go_at_call 15; refine (num7 _ _).mono ?_; rintro e' wn ⟨rfl, hwn⟩; subst wn)
            obtain ⟨TB, tB⟩ := HTB.out
            clear HTB
            have DB := DA.turns tB (fun i hi e => TB.gt (e ▸ hi))
            have BB := BA.trans (tB.below (fun i e => by omega) BA.size)
            obtain ⟨wB, hwB⟩ : ∃ wB, wA.setCell ⟨tw, 4, none⟩ (.slice (some ⟨gn, 0, none⟩) n cn) = wB := ⟨_, rfl⟩
            rw [hwB] at TB DB BB ⊢
            clear DA TA WA tB cA4 cAf cA0 hwB BA
            refine (crash_any DB none 0 0 [] (KLies.nil wB) (by omega) (fun ad had => by cases had) (by omega)).mono ?_
            rintro e' wC ⟨rfl, DC, tC⟩
            have hcr : crashed (burnt S') [] = fresh S'.last := by
              unfold crashed fresh
              have : kept (burnt S').pend [] = [] := by cases (burnt S').pend <;> rfl
              rw [this, lA]
              rfl
            rw [hcr] at DC
            have hgr : ∀ i, grow GA wB wC i → GA i ∨ wB.heap.size ≤ i := fun i hi => hi.imp id (fun r => r.1)
            have TC := TB.to (Kp.same tC) hgr
            have sB := BB.size
            have BC := BB.trans (tC.below gBA sB)
            have gBC : ∀ i, grow GA wB wC i → w.heap.size ≤ i := fun i hi => (hgr i hi).elim (gBA i) (fun r => by omega)
            clear TB DB tC hgr
            obtain ⟨GC, hGC⟩ : ∃ GC, grow GA wB wC = GC := ⟨_, rfl⟩
            rw [hGC] at DC TC gBC
            clear hGC
            have LC : Lg (fresh S'.last) k st sz seq' place' free' T' q0' p0' := JJ'.L.like rfl rfl (by show (0 : Nat) ≤ _; omega)
            have hEC : ∀ w', Turns GC wC w' → Errs w' er := fun w' t => hE.below (BC.trans (t.below gBC BC.size)) (Nat.le_refl _)
            go_wp2_with fail
            refine (openG TC DC LC ⟨rfl, rfl⟩ (by omega) (by omega) hEC).mono ?_
            rintro e' wD ⟨jb2, bm2, rfl, lj2, lb2, hO⟩
            obtain ⟨⟨S5, N5, G5, J5, L5, C5, hN5, hrd5, hG5, T5⟩, t5⟩ := hO
            have sC := BC.size
            have BD := BC.trans (t5.below gBC sC)
            have gBD : ∀ i, G5 i → w.heap.size ≤ i := fun i hi => (hG5 i hi).elim (gBC i) (fun r => by omega)
            have hse5 : ∀ (i o : Nat) (x : It), os[i]? = some o → ys[i]? = some x → x.bs = seesF S5 [] (fun _ => []) [] (fun _ => []) o := fun i o x ho hx => by
              have h3 := hos o (List.mem_of_getElem? ho)
              rw [I.see i o x ho hx, ← hsee8, ← hsee' o h3.1 h3.2, sees_ovl JJ'.C o]
              simp only [seesF, lk]
              rw [hrd5 o h3.1 h3.2]
              have e1 : rdB (fresh S'.last) o = rdB S' o := by unfold rdB; rw [JJ'.L.calm]; rfl
              rw [e1]
              rfl
            have hyl : ys.length = n := I.yl.trans hol
            clear TC DC t5 hEC JJ JJ' I
            go_wp2_with fail
            refine (holdsG J5 C5.on T5 hol hyl hn h2 hos hse5 (B := w.heap.size) BD.size gBD (by omega)).mono ?_
            rintro e' wE ⟨rfl, BE0, JE, TE⟩
            have BE := BD.trans BE0
            have cE0 : wE.cell? ⟨tw, 0, none⟩ = some (.pointer (some ⟨db, 0, none⟩)) := by simp [World.cell?, TE.box]
            clear J5 T5 BE0
            go_wp2_with fail
            refine (arm_any JE.D 1 (by omega)).mono ?_
            rintro e' wF ⟨rfl, qF⟩
            have JF := JE.same qF
            have TF := TE.kp (Kp.same qF.2)
            have BF := BE.trans (qF.2.below gBD BE.size)
            have hof : (armed S5 1).off = false := by unfold armed; rw [if_neg (by omega), if_neg (by simp [C5.on])]; exact C5.on
            clear JE TE qF cE0
            go_wp2_with fail
            refine (check_none JF hof).mono ?_
            rintro e' wG ⟨rfl, qG⟩
            have JG := JF.same qG
            have TG := TF.kp (Kp.same qG.2)
            have BG := BF.trans (qG.2.below gBD BF.size)
            clear JF TF qG
            go_wp2_with fail
            refine (state_ok JG.J JG.A).mono ?_
            rintro e' wH ⟨rfl, dh, rfl⟩
            have bdh : Below wG.heap.size wG (wG.drewN dh) := ⟨rfl, rfl, rfl, Nat.le_refl _, fun _ _ => rfl⟩
            have JH := JG.below bdh
            have TH := TG.kp (Kp.below bdh)
            have BH := BG.trans (bdh.mono BG.size)
            obtain ⟨wH, hwH⟩ : ∃ wH, wG.drewN dh = wH := ⟨_, rfl⟩
            rw [hwH] at JH TH BH ⊢
            clear JG TG hwH bdh
            have cH0 : wH.cell? ⟨tw, 0, none⟩ = some (.pointer (some ⟨db, 0, none⟩)) := by simp [World.cell?, TH.box]
            have hsqi : (seq : Int) ≤ seq' := by omega
            go_wp2_with (go_at_call 15; refine (num7 _ _).mono ?_; rintro e' wn ⟨rfl, hwn⟩; subst wn)
            refine (power_any JH.D).mono ?_
            rintro e' wI ⟨rfl, qI⟩
            have TI := TH.kp (Kp.same qI.2)
            have cI2 : wI.cell? ⟨tw, 2, none⟩ = some (.int .i64 (sz : Nat)) := by simp [World.cell?, TI.box]
            have BI := BH.trans (qI.2.below gBD BH.size)
            rw [hof]
            clear JH TH cH0 qI
            go_wp2_with fail
            go_ret
            exact ⟨rfl, BI⟩
end Go.Proofs.YtnmdnglbpkpfdaaGreatDoor
