/- JournalOwn, but for many. -/
import Derived.Test.YtnmdnglbpkpfdaaGreatDoorPk11
import Derived.Test.YtnmdnglbpkpfdaaGreatDoorPk12
import Derived.Test.YtnmdnglbpkpfdaaGreatDoorPk13
import Derived.Test.YtnmdnglbpkpfdaaGreatDoorPk15
import Derived.Test.YtnmdnglbpkpfdaaGreatDoorPk10
namespace Go.Proofs.YtnmdnglbpkpfdaaGreatDoor
open Go.RowKit Go.Maps
set_option maxRecDepth 100000
/-- What JournalOwn's first loop holds. -/
structure OwI (w0 w : World) (G : Nat → Prop) (N jb bm tb wm tw db bk : Nat) (ov wv : Value) (ns : Nat) (m : List (Nat × Nat)) (f : Nat → List Int) (xs : List It) (B C : Nat → Prop) (sv2 : Value) (t : Nat) : Prop where
  X : Tx w db F40 40 N G jb 2 30 1 0 29 bm 0 [] (fun _ => []) tb wm ns m f (.slice none 0 0) 0
  T : Tn w (fun k => G k ∨ B k ∨ C k) tw db ov wv (outs 40) xs
  xl : xs.length = 10
  see : ∀ (i o : Nat) (x : It), (outs 40)[i]? = some o → xs[i]? = some x → x.bs = seesF F40 m f [] (fun _ => []) o
  mo : ∀ p ∈ m, p.1 ∈ outs 40
  bl : Ns w (fun k => G k ∨ B k ∨ C k) sv2 (m.map (·.1))
  Q : Qk w w0.heap.size bk B C (3 * t) (2 * t)
  ap : Apart G jb bm [] tb wm m (fun k => B k ∨ C k)
  hns : ns ≤ t
  bw : Below w0.heap.size w0 w
structure OwB (w0 : World) (G : Nat → Prop) (jb bm tb wm tw : Nat) (wv : Value) : Prop where
  g : ∀ i, G i → w0.heap.size ≤ i
  j : w0.heap.size ≤ jb
  b : w0.heap.size ≤ bm
  t : w0.heap.size ≤ tb
  m : w0.heap.size ≤ wm
  w : w0.heap.size ≤ tw
  v : ∀ b, wv.ownBlock = some b → w0.heap.size ≤ b
def OwE (w0 w : World) (G : Nat → Prop) (N jb bm tb wm tw db bk : Nat) (ov wv sv2 : Value) (t : Nat) : Prop := ∃ ns m f xs B C, OwI w0 w G N jb bm tb wm tw db bk ov wv ns m f xs B C sv2 t
theorem Qk.new {w : World} {b0 bk : Nat} (h : w.heap[bk]? = some (.cells #[.slice none 0 0, .slice none 0 0, .slice none 0 0] 90)) (hb : b0 ≤ bk) : Qk w b0 bk (fun k => k = bk) (fun _ => False) 0 0 := by
  have hl := heap_lt h
  refine ⟨⟨.slice none 0 0, [], [], ⟨⟨_, _, h, World.ownsRow_nil _ _ _ _, World.ownsRow_nil _ _ _ _, (fun k hk => by cases hk), fun k hk => by cases hk⟩, ⟨hb, rfl⟩, (fun i hi => by simp at hi), fun e he => by simp at he⟩, ⟨World.ownsRow_nil _ _ _ _, (fun k hk => by cases hk), (fun i hi => by simp at hi), fun e he => by simp at he⟩, rfl, rfl, (fun e he => by simp at he), fun e he => by simp at he⟩, fun k hk => hk.elim, fun k hk => ?_, fun k hk => hk.elim⟩
  rw [hk]
  exact ⟨hb, hl⟩
theorem OwI.below {w0 w w' : World} {G : Nat → Prop} {N jb bm tb wm tw db bk : Nat} {ov wv : Value} {ns : Nat} {m : List (Nat × Nat)} {f : Nat → List Int} {xs : List It} {B C : Nat → Prop} {sv2 : Value} {t : Nat} (I : OwI w0 w G N jb bm tb wm tw db bk ov wv ns m f xs B C sv2 t) (b : Below w.heap.size w w') : OwI w0 w' G N jb bm tb wm tw db bk ov wv ns m f xs B C sv2 t :=
  { I with
    X := I.X.below b
    T := I.T.kp (Kp.below b)
    bl := I.bl.kp (Kp.below b)
    Q := I.Q.turns (Below.turns b (fun _ => False)) (fun _ _ => id) (fun _ _ => id)
    bw := I.bw.trans (b.mono I.bw.size) }
theorem Tn.put {w : World} {G : Nat → Prop} {tw db gw cw : Nat} {ov : Value} {os : List Nat} {xs : List It} (T : Tn w G tw db ov (.slice (some ⟨gw, 0, none⟩) 10 cw) os xs) (hl : xs.length = 10) (j : Nat) {x : It} (Ix : ItOk w G x) : Tn (w.setCell ⟨gw, j, none⟩ x.val) G tw db ov (.slice (some ⟨gw, 0, none⟩) 10 cw) os (xs.set j x) ∧ Turns (fun i => i = gw) w (w.setCell ⟨gw, j, none⟩ x.val) := by
  have r := T.x.row
  rw [hl] at r
  obtain ⟨cs, fz, hg⟩ := own_heap r
  have u := Turns.cell w gw j x.val
  refine ⟨⟨(u.block tw (heap_lt T.box) (fun e => own_typeJ r T.box (by decide) (by rw [e]; rfl))).trans T.box, T.o.turn1 hg (by decide) u, ⟨?_, T.x.gr, fun y hy => ?_⟩, T.gt⟩, u⟩
  · rw [List.length_set, hl, List.map_set]
    exact (r.stored j x.val).1
  · rcases List.mem_or_eq_of_mem_set hy with hy | rfl
    · exact (T.x.it y hy).turn1 hg (by decide) u
    · exact Ix.turn1 hg (by decide) u
theorem Tn.weak {w : World} {G G' : Nat → Prop} {tw db : Nat} {ov wv : Value} {os : List Nat} {xs : List It} (T : Tn w G tw db ov wv os xs) (h : ∀ k, G' k → G k) : Tn w G' tw db ov wv os xs := ⟨T.box, ⟨T.o.row, fun b hb r => T.o.gr b hb (h _ r)⟩, ⟨T.x.row, fun b hb r => T.x.gr b hb (h _ r), fun x hx => ⟨(T.x.it x hx).own, fun r => (T.x.it x hx).ng (h _ r), (T.x.it x hx).by_⟩⟩, fun r => T.gt (h _ r)⟩
theorem Ns.weak {w : World} {G G' : Nat → Prop} {v : Value} {l : List Nat} (T : Ns w G v l) (h : ∀ k, G' k → G k) : Ns w G' v l := ⟨T.row, fun b hb r => T.gr b hb (h _ r)⟩
theorem Ns.to {w w' : World} {G G' : Nat → Prop} {v : Value} {l : List Nat} (h : Ns w G v l) (k : Kp G w w') (hG : ∀ i, G' i → G i ∨ w.heap.size ≤ i) : Ns w' G' v l := by
  have T := h.kp k
  exact ⟨T.row, fun b hb r => (hG b r).elim (h.gr b hb) (fun q => by have := (h.row.lt b hb).2; omega)⟩
/-- What JournalOwn's last loop holds. -/
def Ow2 (w0 w : World) (G : Nat → Prop) (S : DevS) (N jb bm tb wm tw db bk : Nat) (ov wv : Value) (seq : Int) (place : Nat) (free : Int) (nd : Nat) (a : List (Nat × Nat)) (fa : Nat → List Int) (xs : List It) (t : Nat) : Prop := ∃ B C, Tx w db S 40 N G jb 2 30 seq place free bm nd a fa tb wm 0 [] fa (.slice none 0 0) 0 ∧ Tn w (fun k => G k ∨ B k ∨ C k) tw db ov wv (outs 40) xs ∧ Qk w w0.heap.size bk B C (3 * t) (2 * t) ∧ Apart G jb bm a tb wm [] (fun k => B k ∨ C k) ∧ Below w0.heap.size w0 w
set_option maxHeartbeats 8000000 in
theorem own_part (er : Nat → Addr) (w : World) (hE : Errs w er) (hMany : ∀ w, Errs w er → Calls Tryz.prog 41 #[] w fun e w' => e = .returned (.bool true) ∧ Below w.heap.size w w') (ao : Option Addr) (np pc : Nat) (ps : List Pt) (hnp : np ≤ 400000) (hP : PtLies w ao np ps) :
    Calls Tryz.prog 8 #[.slice ao np pc] w fun e w' => e = .returned (.bool true) ∧ Below w.heap.size w w' := by
  go_enter Tryz.func8, Tryz.ntmps8
  go_wp2_with fail
  refine (head7 er w hE).mono ?_
  rintro e wh ⟨rfl, Bh⟩
  go_wp2_with fail
  refine (hMany wh (hE.below Bh (Nat.le_refl _))).mono ?_
  rintro e w1 ⟨rfl, b1⟩
  have sh := Bh.size
  have B1 : Below w.heap.size w w1 := Bh.trans (b1.mono sh)
  go_wp2_with fail
  refine (town0w w1).mono ?_
  rintro e w2 ⟨tw, db, N, F, ov, wv, xs, rfl, D2, hN, hF, T2, hxl, hxz, ltw, lov, lwv, b2⟩
  obtain ⟨go, co, gw, cw, rfl, rfl⟩ := T2.form hxl
  have s1 := B1.size
  have B2 : Below w.heap.size w w2 := B1.trans (b2.mono s1)
  have hEF : ∀ w', Turns F w2 w' → Errs w' er := fun w' t => hE.below (B2.trans (t.below (fun i r => by have := hF i r; omega) B2.size)) (Nat.le_refl _)
  go_wp2_with fail
  refine (open7 T2 D2 hEF (fun _ => [])).mono ?_
  rintro e w3 ⟨jb, bm, rfl, lj, lb, G, J3, hG3, T3, t3⟩
  have s2 := B2.size
  have sb2 := b2.size
  have B3 := B2.trans (t3.below (fun i r => by have := hF i r; omega) B2.size)
  have s3 := B3.size
  go_wp2_with fail
  refine (Tx.begin J3 F40_calm.on (fun _ => [])).mono ?_
  rintro e w4 ⟨tb, wm, rfl, l1, l2, X4, t4⟩
  have T4 := T3.kp (Kp.turns t4 (fun x cs ty fz g hx ht e => e.elim g (jty_jb J3.J hx ht)))
  have gB : ∀ i, G i → w.heap.size ≤ i := fun i r => (hG3 i r).elim (fun r => by have := hF i r; omega) (fun r => by omega)
  have B4 := B3.trans (t4.below (fun i r => r.elim (gB i) (fun e => by omega)) s3)
  have OB : OwB w G jb bm tb wm tw (.slice (some ⟨gw, 0, none⟩) 10 cw) := ⟨gB, by omega, by omega, by omega, by omega, by omega, fun b hb => by have := lwv b hb; omega⟩
  clear t3 t4 hG3 hEF b2 T2 D2 J3 T3
  go_wp2_with fail
  obtain ⟨W, hW⟩ : ∃ W, w4.alloc (.cells #[.slice none 0 0, .slice none 0 0, .slice none 0 0] 90) = W := ⟨_, rfl⟩
  try rw [hW]
  have bW : Below w4.heap.size w4 W := by rw [← hW]; exact (Below.refl _ w4).alloc (Nat.le_refl _) _
  have hbk : W.heap[w4.heap.size]? = some (.cells #[.slice none 0 0, .slice none 0 0, .slice none 0 0] 90) := by rw [← hW]; exact (MapKept.heap_alloc w4 _).1
  obtain ⟨bk, hbke⟩ : ∃ bk, w4.heap.size = bk := ⟨_, rfl⟩
  rw [hbke] at hbk
  have s4 := B4.size
  have HI : Hid (OwE w W G N jb bm tb wm tw db bk (.slice (some ⟨go, 0, none⟩) 10 co) (.slice (some ⟨gw, 0, none⟩) 10 cw) (.slice none 0 0) 0) := by
    have hGl := X4.D.lt
    have TW := T4.to (G' := fun k => G k ∨ k = bk ∨ False) (Kp.below bW) (fun i r => r.elim Or.inl (fun r => Or.inr (by rcases r with r | r; omega; exact r.elim)))
    refine ⟨0, [], _, xs, _, _, X4.below bW, TW, hxl, fun i o x ho hx => ?_, (fun p hp => by cases hp), ⟨⟨rfl, Or.inl ⟨rfl, rfl⟩⟩, (fun b hb => by cases hb)⟩, Qk.new hbk (by omega), ?_, Nat.le_refl _, B4.trans (bW.mono s4)⟩
    · rw [hxz x (List.mem_of_getElem? hx)]
      have h3 := outs_in (List.mem_of_getElem? ho)
      simp only [seesF, lk]
      exact (F40_out h3.1 (by omega)).symm
    · have := X4.lt w4.heap.size (Nat.le_refl _)
      exact this.sub (fun k r => by rcases r with r | r; omega; exact r.elim)
  try rw [hbke]
  clear hW hbke hbk X4 T4 bW
  go_loopw [3, 11, 12] (fun u v i wr => ∃ q : Nat, q ≤ np ∧ i = .int .i64 q ∧ u = .bool true ∧ OwE w wr G N jb bm tb wm tw db bk (.slice (some ⟨go, 0, none⟩) 10 co) (.slice (some ⟨gw, 0, none⟩) 10 cw) v q) (fun _ _ i _ => np - (intOf i).toNat)
  case atStart => exact ⟨0, Nat.zero_le _, rfl, rfl, HI.out⟩
  case round =>
    clear HI
    obtain ⟨q, hq, rfl, rfl, ns, m, f, xs1, B, C, I⟩ := hrel
    have hnpi : (np : Int) ≤ 400000 := by omega
    by_cases hlt : q < np
    · have hqi : (q : Int) < np := by omega
      obtain ⟨e, he⟩ : ∃ e, ps[q]? = some e := ⟨_, List.getElem?_eq_getElem (by rw [hP.hlen]; exact hlt)⟩
      obtain ⟨PI, ge, pe, rfl, hc⟩ := hP.hcells q e he
      have hc0 : wr.cell? ⟨ge, pe + q * 2, none⟩ = some (.int .i64 e.pb) := by have := cell_later I.bw (hc 0 _ rfl); simpa using this
      have hc1 := fun w'' (b : Below w.heap.size w w'') => cell_later b (hc 1 _ rfl)
      have hc1r := hc1 wr I.bw
      go_wp2_with fail
      refine (place7 I.T outs_len e.pb).mono ?_
      rintro e' wn ⟨j, hj, rfl, hwn⟩
      subst wn
      obtain ⟨o, hoj⟩ : ∃ o, (outs 40)[j]? = some o := ⟨_, List.getElem?_eq_getElem (by rw [outs_len]; exact hj)⟩
      have hom := List.mem_of_getElem? hoj
      have hoo := outs_in hom
      have hm10 := outs_few I.X.M.ris I.mo
      have hji : (j : Int) < 10 := by omega
      obtain ⟨x9, hx9⟩ : ∃ x, xs1[j]? = some x := ⟨_, List.getElem?_eq_getElem (by rw [I.xl]; exact hj)⟩
      go_wp2_with fail
      refine (block7 e.da e.dn e.dc e.ds wr PI.n (PI.d.below I.bw (Nat.le_refl _))).mono ?_
      rintro e' wa ⟨ga, ca, rfl, oa, ba⟩
      have Ia := I.below ba
      have hGr := I.X.D.lt
      have hTr := I.T
      have hIQ := I.Q
      have hNr := I.bl
      have hAP := I.X.lt wr.heap.size (Nat.le_refl _)
      clear hc0 hc1r I
      go_wp2_with fail
      refine (room7 (some ⟨ga, 0, none⟩) ca (blkB e.ds) wa (Lies.owned oa)).mono ?_
      rintro e' wb ⟨gx, cx, rfl, ob, bb⟩
      have Ib := Ia.below bb
      have sb := Ib.bw.size
      have sba := Ia.bw.size
      have lgx := ob.lt gx rfl
      have y3 := (Ib.T.cells Ib.xl hj hoj hx9).c3
      have yk := (Ib.T.cells Ib.xl hj hoj hx9).ck
      have hcx : 515 ≤ cx := by
        rcases ob.2 with ⟨h, _⟩ | ⟨g, c, cur, h, _, _, h1, _⟩
        · cases h
        · cases h; omega
      have hcxi : (512 : Int) ≤ (cx : Int) := by omega
      obtain ⟨n0, hn0⟩ : ∃ n0, wr.heap.size = n0 := ⟨_, rfl⟩
      have sa9 := ba.size
      have sb9 := bb.size
      have bab : Below wr.heap.size wr wb := ba.trans (bb.mono ba.size)
      have Tb : Tn wb (fun k => (G k ∨ B k ∨ C k) ∨ n0 ≤ k) tw db (.slice (some ⟨go, 0, none⟩) 10 co) (.slice (some ⟨gw, 0, none⟩) 10 cw) (outs 40) xs1 := hTr.to (Kp.below bab) (fun i r => r.imp id (fun r => by omega))
      have Nb : Ns wb (fun k => (G k ∨ B k ∨ C k) ∨ n0 ≤ k) u11 (m.map (·.1)) := hNr.to (Kp.below bab) (fun i r => r.imp id (fun r => by omega))
      have dT := Tb.kp (Kp.below (w' := wb.drew) ⟨rfl, rfl, rfl, Nat.le_refl _, fun _ _ => rfl⟩)
      have dN := Nb.kp (Kp.below (w' := wb.drew) ⟨rfl, rfl, rfl, Nat.le_refl _, fun _ _ => rfl⟩)
      have hGl := Ib.X.D.lt
      have gxG : ¬ G gx := fun r => by
        have := Ib.X.D.lt _ r
        have h9 := ba.size
        have h8 : wa.heap.size ≤ gx := lgx.1
        have h7 : ∀ i, G i → i < wr.heap.size := hGr
        have := h7 _ r
        omega
      have hLx : Lies wb.drew (some ⟨gx, 0, none⟩) 512 cx (blkB e.ds) := by
        have h9 := own_take ob (show 512 ≤ 515 by omega)
        have h8 : ((blkB e.ds ++ [161, 162, 163]).map (Value.int .u8)).take (512 * 1) = (blkB e.ds).map (Value.int .u8) := by
          rw [List.map_append, List.take_append_of_le_length (by simp [blkB_len])]
          exact List.take_of_length_le (by simp [blkB_len])
        rw [h8] at h9
        exact (Lies.owned h9).below (show Below wb.heap.size wb wb.drew from ⟨rfl, rfl, rfl, Nat.le_refl _, fun _ _ => rfl⟩) (Nat.le_refl _)
      have mWr := Tx.write (Ib.X.below (w' := wb.drew) ⟨rfl, rfl, rfl, Nat.le_refl _, fun _ _ => rfl⟩) F40_calm.on (by omega) o hoo.1 (by omega) (some ⟨gx, 0, none⟩) cx _ hLx (blkB_by PI.y) (fun ad h => by cases h; exact gxG) (Or.inr (by omega)) (by have := Ib.hns; omega)
      have hS1 : ∀ w'' : World, Tn w'' (fun k => (G k ∨ B k ∨ C k) ∨ n0 ≤ k) tw db (.slice (some ⟨go, 0, none⟩) 10 co) (.slice (some ⟨gw, 0, none⟩) 10 cw) (outs 40) xs1 → (w''.cell? ⟨tw, 3, none⟩ = some (.slice (some ⟨go, 0, none⟩) 10 co) ∧ w''.cell? ⟨go, j, none⟩ = some (.int .i64 (o : Nat))) := fun w'' hT => ⟨(hT.cells Ib.xl hj hoj hx9).c3, (hT.cells Ib.xl hj hoj hx9).ck⟩
      have k0 := hS1 _ dT
      have KpW : ∀ w5 : World, Turns (fun i => G i ∨ i = wm) wb.drew w5 → Kp (fun k => (G k ∨ B k ∨ C k) ∨ n0 ≤ k) wb.drew w5 := fun w5 t => Kp.turns t (fun x cs ty fz gx hx ht r => r.elim (fun r => gx (Or.inl (Or.inl r))) (fun r => mp_cells (Ib.X.below (w' := wb.drew) ⟨rfl, rfl, rfl, Nat.le_refl _, fun _ _ => rfl⟩).M hx r))
      clear Ia oa y3 yk
      go_wp2_with fail
      go_region_held3 (fun w'' => w''.cell? ⟨tw, 3, none⟩ = some (.slice (some ⟨go, 0, none⟩) 10 co) ∧ w''.cell? ⟨go, j, none⟩ = some (.int .i64 (o : Nat)))
        (first | exact k0 | exact k1)
        (first
          | (go_at_call 27; refine mWr.mono ?_; rintro e' w5 ⟨gv, rfl, lgv, X5, t5⟩; have T5 := dT.kp (KpW w5 t5); have k1 := hS1 _ T5))
      have N5 := dN.kp (KpW w5 t5)
      have s5 := t5.size
      have dr : Turns (fun i => G i ∨ i = wm) wb wb.drew := Turns.drewN _ wb 1
      have t05 : Turns (fun i => G i ∨ i = wm) wb w5 := dr.trans t5 (fun _ _ r => r)
      have hGwm : ∀ k, (G k ∨ k = wm) → ¬ (B k ∨ C k) := fun k r q => r.elim (fun r => Ib.ap.gg k r q) (fun r => Ib.ap.gm (r ▸ q))
      have Q5 := Ib.Q.turns t05 (fun k hk r => hGwm k r (Or.inl hk)) (fun k hk r => hGwm k r (Or.inr hk))
      have B5 := Ib.bw.trans (t05.below (fun i r => r.elim (gB i) (fun e => by have := OB.m; omega)) Ib.bw.size)
      have ox5 : w5.ownsRow wa.heap.size 5 1 (.slice (some ⟨gx, 0, none⟩) 515 cx) 515 ((blkB e.ds ++ [161, 162, 163]).map (Value.int .u8)) := own_turns ob t05 (fun b hb r => by
        have h9 : gx = b := Option.some.inj hb
        subst h9
        rcases r with r | r
        · exact gxG r
        · obtain ⟨cs, fz, hh⟩ := own_heap ob
          exact mp_cells Ib.X.M hh r)
      have hapv : Apart G jb bm [] tb wm (mput m o gv) (fun k => k = gx ∨ B k ∨ C k) := by
        have h9 := hAP
        have h8 : wa.heap.size ≤ gx := lgx.1
        have h7 := lgx.2
        have hb9 := Ib.Q.bB
        have hc9 := Ib.Q.bC
        have lgv' : wb.heap.size ≤ gv := lgv
        refine ⟨fun i hi r => ?_, fun r => ?_, fun r => ?_, fun r => ?_, fun r => ?_, fun p hp r => ?_, fun p hp r => by cases hp⟩
        · rcases r with r | r
          · exact h9.gg i hi (by omega)
          · exact Ib.ap.gg i hi r
        · rcases r with r | r
          · exact h9.gj (by omega)
          · exact Ib.ap.gj r
        · rcases r with r | r
          · exact h9.gb (by omega)
          · exact Ib.ap.gb r
        · rcases r with r | r
          · exact h9.gt (by omega)
          · exact Ib.ap.gt r
        · rcases r with r | r
          · exact h9.gm (by omega)
          · exact Ib.ap.gm r
        · rcases mput_mem hp with rfl | hp
          · rcases r with r | r | r
            · have r : gv = gx := r
              omega
            · have := hb9 _ r
              have h6 : gv < wb.heap.size := this.2
              omega
            · have := hc9 _ r
              have h6 : gv < wb.heap.size := this.2
              omega
          · rcases r with r | r
            · exact h9.gv p hp (by omega)
            · exact Ib.ap.gv p hp r
      have hQBr := hIQ.bB
      have hQCr := hIQ.bC
      have hns9 := Ib.hns
      have hmo9 := Ib.mo
      have hsee9 := Ib.see
      have hxl9 := Ib.xl
      have hris9 := Ib.X.M.ris
      have hQB := Ib.Q.bB
      have hQC := Ib.Q.bC
      have pL := PI.d.below B5 (Nat.le_refl _)
      have kc5 := hc1 _ B5
      clear k0 k1 dT dN Tb Nb mWr Ib KpW hLx ob
      go_wp2_with (go_at_call 15; refine (num7 _ _).mono ?_; rintro e' wn ⟨rfl, hwn⟩; subst wn)
      refine (block7 e.da e.dn e.dc e.ds w5 PI.n pL).mono ?_
      rintro e' w6 ⟨g6, c6, rfl, o6, b6⟩
      go_wp2_with fail
      refine (room7 (some ⟨g6, 0, none⟩) c6 (blkB e.ds) w6 (Lies.owned o6)).mono ?_
      rintro e' w7 ⟨gy, cy, rfl, o7, b7⟩
      have b57 : Below w5.heap.size w5 w7 := b6.trans (b7.mono b6.size)
      have ox7 := own_later ox5 b57
      have lgy := o7.lt gy rfl
      go_wp2_with fail
      refine (same_any (some ⟨gx, 0, none⟩) (some ⟨gy, 0, none⟩) 515 515 cx cy (blkB e.ds ++ [161, 162, 163]) (blkB e.ds ++ [161, 162, 163]) w7 (by omega) (Lies.owned ox7) (Lies.owned o7)).mono ?_
      rintro e' w8 ⟨rfl, m8, hw8⟩
      have b78 : Below w7.heap.size w7 w8 := by rw [hw8]; exact ⟨rfl, rfl, rfl, Nat.le_refl _, fun _ _ => rfl⟩
      clear hw8
      rw [decide_eq_true (rfl : blkB e.ds ++ [161, 162, 163] = blkB e.ds ++ [161, 162, 163])]
      have b58 : Below w5.heap.size w5 w8 := b57.trans (b78.mono b57.size)
      have X8 := X5.below b58
      have T8 := T5.kp (Kp.below b58)
      have N8 := N5.kp (Kp.below b58)
      have Q8 := Q5.turns (Below.turns b58 (fun _ => False)) (fun _ _ => id) (fun _ _ => id)
      have B8 := B5.trans (b58.mono B5.size)
      have ox8 := own_later ox7 b78
      clear X5 T5 N5 Q5 kc5 ox5 ox7 o6 o7 b6 b7 b57 b78 pL
      go_wp2_with fail
      go_loopw [16] (fun a9 wl => ∃ p : Nat, p ≤ 515 ∧ a9 = .int .i64 p ∧ (∃ ys, wl.ownsRow wa.heap.size 5 1 (.slice (some ⟨gx, 0, none⟩) 515 cx) 515 ys) ∧ Turns (fun i => i = gx) w8 wl) (fun a9 _ => 515 - (intOf a9).toNat)
      case atStart => exact ⟨0, by omega, rfl, ⟨_, ox8⟩, Turns.refl _ _⟩
      case round =>
        clear ox8
        obtain ⟨p, hp, rfl, ⟨ys, oxl⟩, tl⟩ := hrel
        obtain ⟨wl, hwl⟩ : ∃ wl, wl = wr := ⟨_, rfl⟩
        by_cases hpl : p < 515
        · have hpi : (p : Int) < 515 := by omega
          obtain ⟨z, hcell⟩ : ∃ z, wr.cell? ⟨gx, p, none⟩ = some z := by
            rw [oxl.cellAt p (by omega)]
            exact ⟨_, List.getElem?_eq_getElem (by rw [oxl.1]; omega)⟩
          have hfz := oxl.frozenAt p
          have HST : Hid _ := oxl.stored p (.int .u8 119)
          go_wp2_with fail
          go_roundw
          case rel => exact ⟨p + 1, by omega, by go_num, ⟨_, HST.out.1⟩, tl.trans (Turns.grown HST.out.2 (fun b hb => by have h9 : gx = b := Option.some.inj hb; exact h9.symm)) (fun _ _ r => r)⟩
          case measure => simp [intOf]; omega
        · have hpi : ¬ (p : Int) < 515 := by omega
          clear oxl
          have tl9 : Turns (fun k => (G k ∨ B k ∨ C k) ∨ n0 ≤ k) w8 wr := tl.mono (fun k _ r => Or.inr (by have := lgx.1; omega))
          have T9 := T8.kp (Kp.same tl9)
          have N9 := N8.kp (Kp.same tl9)
          have X9 := X8.apart tl (hapv.sub (fun k r => Or.inl r))
          have gxn : ∀ k, (B k ∨ C k) → k ≠ gx := fun k r e => by
            have h8 : wa.heap.size ≤ gx := lgx.1
            rcases r with r | r
            · have := hQBr k r; omega
            · have := hQCr k r; omega
          have Q9 := Q8.turns tl (fun k hk => gxn k (Or.inl hk)) (fun k hk => gxn k (Or.inr hk))
          have B9 := B8.trans (tl.below (fun i e => by have := lgx.1; omega) B8.size)
          have dL := PI.d.below (B9.trans (show Below w.heap.size wr wr.drew from ⟨rfl, rfl, rfl, Nat.le_refl _, fun _ _ => rfl⟩)) (Nat.le_refl _)
          have dT := T9.kp (Kp.below (w' := wr.drew) ⟨rfl, rfl, rfl, Nat.le_refl _, fun _ _ => rfl⟩)
          have hS2 : ∀ w'' : World, Tn w'' (fun k => (G k ∨ B k ∨ C k) ∨ n0 ≤ k) tw db (.slice (some ⟨go, 0, none⟩) 10 co) (.slice (some ⟨gw, 0, none⟩) 10 cw) (outs 40) xs1 → Below w.heap.size w w'' → (w''.cell? ⟨tw, 4, none⟩ = some (.slice (some ⟨gw, 0, none⟩) 10 cw) ∧ w''.cell? ⟨ge, pe + q * 2 + 1, none⟩ = some (.slice e.da e.dn e.dc)) := fun w'' hT b => ⟨(hT.cells hxl9 hj hoj hx9).c4, hc1 w'' b⟩
          have k0 := hS2 _ dT (B9.trans ⟨rfl, rfl, rfl, Nat.le_refl _, fun _ _ => rfl⟩)
          have hGn := X9.D.lt
          have hQn := Q9.bB
          have hQm := Q9.bC
          have HP : ∀ (wc : World) (gc cc : Nat), Tn wc (fun k => (G k ∨ B k ∨ C k) ∨ n0 ≤ k) tw db (.slice (some ⟨go, 0, none⟩) 10 co) (.slice (some ⟨gw, 0, none⟩) 10 cw) (outs 40) xs1 → Below w.heap.size w wc → B512 wc wr.drew.heap.size (.slice (some ⟨gc, 0, none⟩) 512 cc) (blkB e.ds) → Below wr.drew.heap.size wr.drew wc → (Tn (wc.setCell ⟨gw, j, none⟩ (.slice (some ⟨gc, 0, none⟩) 512 cc)) (fun k => G k ∨ B k ∨ C k) tw db (.slice (some ⟨go, 0, none⟩) 10 co) (.slice (some ⟨gw, 0, none⟩) 10 cw) (outs 40) (xs1.set j ⟨gc, cc, blkB e.ds⟩) ∧ Turns (fun i => i = gw) wc (wc.setCell ⟨gw, j, none⟩ (.slice (some ⟨gc, 0, none⟩) 512 cc))) ∧ ((wc.setCell ⟨gw, j, none⟩ (.slice (some ⟨gc, 0, none⟩) 512 cc)).cell? ⟨tw, 4, none⟩ = some (.slice (some ⟨gw, 0, none⟩) 10 cw) ∧ (wc.setCell ⟨gw, j, none⟩ (.slice (some ⟨gc, 0, none⟩) 512 cc)).cell? ⟨ge, pe + q * 2 + 1, none⟩ = some (.slice e.da e.dn e.dc)) := fun wc gc cc Tc Bc oc bc => by
            have lgc : wr.heap.size ≤ gc := (oc.lt gc rfl).1
            have hh := (Tc.weak (G' := fun k => G k ∨ B k ∨ C k) (fun k r => Or.inl r)).put hxl9 j (x := ⟨gc, cc, blkB e.ds⟩) ⟨own_zero oc, fun r => by
              rcases r with r | r | r
              · have h9 : gc < wr.heap.size := hGn _ r; omega
              · have h9 : gc < wr.heap.size := (hQn _ r).2; omega
              · have h9 : gc < wr.heap.size := (hQm _ r).2; omega, blkB_by PI.y⟩
            have hbox : (wc.setCell ⟨gw, j, none⟩ (.slice (some ⟨gc, 0, none⟩) 512 cc)).heap[tw]? = _ := hh.1.box
            exact ⟨hh, by simp [World.cell?, hbox], hc1 _ (Bc.trans (hh.2.below (fun i e => by have := OB.v gw rfl; omega) Bc.size))⟩
          clear X8 T8 N8 Q8
          go_wp2_with fail
          go_region_held3 (fun w'' => w''.cell? ⟨tw, 4, none⟩ = some (.slice (some ⟨gw, 0, none⟩) 10 cw) ∧ w''.cell? ⟨ge, pe + q * 2 + 1, none⟩ = some (.slice e.da e.dn e.dc))
            (first | exact k0 | exact k1 | exact k2 | exact k2.1)
            (first
              | (go_at_call 28; refine (block7 e.da e.dn e.dc e.ds wr.drew PI.n dL).mono ?_; rintro e' wc ⟨gc, cc, rfl, oc, bc⟩; have Tc := dT.kp (Kp.below bc); have Bc : Below w.heap.size w wc := (B9.trans (show Below w.heap.size wr wr.drew from ⟨rfl, rfl, rfl, Nat.le_refl _, fun _ _ => rfl⟩)).trans (bc.mono B9.size); have k1 := hS2 _ Tc Bc; have zc := (Tc.cells hxl9 hj hoj hx9).cx; have rc := Tc.x.row; have zf : wc.frozen? ⟨gw, j, none⟩ = false := (by { rw [hxl9] at rc; exact rc.frozenAt j }); have HPut := HP wc gc cc Tc Bc oc bc; have k2 := HPut.2))
          obtain ⟨⟨TZ, uz⟩, _⟩ := HPut
          have Xc := (X9.below (w' := wr.drew) ⟨rfl, rfl, rfl, Nat.le_refl _, fun _ _ => rfl⟩).below bc
          have Nc := (N9.kp (Kp.below (w' := wr.drew) ⟨rfl, rfl, rfl, Nat.le_refl _, fun _ _ => rfl⟩)).kp (Kp.below bc)
          have bcr : Below wr.heap.size wr wc := (show Below wr.heap.size wr wr.drew from ⟨rfl, rfl, rfl, Nat.le_refl _, fun _ _ => rfl⟩).trans bc
          have Qc := Q9.turns (Below.turns bcr (fun _ => False)) (fun _ _ => id) (fun _ _ => id)
          have rcx := Tc.x.row
          rw [hxl9] at rcx
          obtain ⟨csx, fzx, hgx⟩ := own_heap rcx
          have gwn := Tc.x.gr gw rfl
          have XZ := Xc.turn1 hgx (by decide) (by decide) (fun r => gwn (Or.inl (Or.inl r))) uz
          have NZ := (Nc.turn1 hgx (by decide) uz).weak (G' := fun k => G k ∨ B k ∨ C k) (fun k r => Or.inl r)
          have QZ := Qc.turns uz (fun k hk r => gwn (Or.inl (Or.inr (Or.inl (r ▸ hk))))) (fun k hk r => gwn (Or.inl (Or.inr (Or.inr (r ▸ hk)))))
          have BZ := Bc.trans (uz.below (fun i e => by have := OB.v gw rfl; omega) Bc.size)
          obtain ⟨wz, hwz⟩ : ∃ wz, wc.setCell ⟨gw, j, none⟩ (.slice (some ⟨gc, 0, none⟩) 512 cc) = wz := ⟨_, rfl⟩
          try rw [hwz]
          rw [hwz] at TZ uz XZ NZ QZ BZ
          have lset : (xs1.set j ⟨gc, cc, blkB e.ds⟩).length = 10 := by rw [List.length_set]; exact hxl9
          have hxj : (xs1.set j ⟨gc, cc, blkB e.ds⟩)[j]? = some ⟨gc, cc, blkB e.ds⟩ := List.getElem?_set_self (by rw [hxl9]; exact hj)
          have seeZ := put_see (g := gv) hris9 hsee9 hoj ⟨gc, cc, blkB e.ds⟩
          have hHl : ∀ i, (G i ∨ B i ∨ C i) → i < wz.heap.size := fun i r => by
            rcases r with r | r | r
            · exact XZ.D.lt i r
            · exact (QZ.bB i r).2
            · exact (QZ.bC i r).2
          have z3 := (TZ.cells lset hj hoj hxj).c3
          have zk := (TZ.cells lset hj hoj hxj).ck
          clear k0 k1 k2 HP dT Tc Xc Nc Qc rcx rc hgx X9 T9 N9 Q9 dL hS2 hwz zc zf oc uz tl tl9
          go_wp2_with fail
          refine (with7 NZ (by rw [List.length_map]; omega) o (by omega) hHl).mono ?_
          rintro e' wv ⟨nb, rfl, Nv, lnb, bv⟩
          rw [withF_put m o gv] at Nv
          have XV := XZ.below bv
          have TV := TZ.kp (Kp.below bv)
          have QV := QZ.turns (Below.turns bv (fun _ => False)) (fun _ _ => id) (fun _ _ => id)
          have BV := BZ.trans (bv.mono BZ.size)
          have dT := TV.kp (Kp.below (w' := wv.drew) ⟨rfl, rfl, rfl, Nat.le_refl _, fun _ _ => rfl⟩)
          have hit := TV.x.it ⟨gc, cc, blkB e.ds⟩ (List.mem_of_getElem? hxj)
          have hbs : blkB e.ds = seesF F40 (mput m o gv) (updF f o (blkB e.ds)) [] (fun _ => []) o := seeZ j o _ hoj hxj
          have hmp : (mput m o gv).length ≤ 10 := outs_few XV.M.ris (fun p hp => (mput_mem hp).elim (fun e9 => by rw [e9]; exact hom) (hmo9 p))
          have drb : Below wv.heap.size wv wv.drew := ⟨rfl, rfl, rfl, Nat.le_refl _, fun _ _ => rfl⟩
          have mR := reads_any (XV.below drb) F40_calm.on (by omega) (by omega) (QV.turns (Below.turns drb (fun _ => False)) (fun _ _ => id) (fun _ _ => id)) BV.size (hapv.sub (fun k r => Or.inr r)) (by omega) (by omega) o hoo.1 (by omega) (wa := some ⟨gc, 0, none⟩) (wc := cc) (by rw [← hbs]; exact (Lies.owned hit.own).below drb (Nat.le_refl _)) (fun ad h => by cases h; exact hit.ng) (Nv.kp (Kp.below drb))
          have hS3 : ∀ w'' : World, Tn w'' (fun k => G k ∨ B k ∨ C k) tw db (.slice (some ⟨go, 0, none⟩) 10 co) (.slice (some ⟨gw, 0, none⟩) 10 cw) (outs 40) (xs1.set j ⟨gc, cc, blkB e.ds⟩) → (w''.cell? ⟨tw, 3, none⟩ = some (.slice (some ⟨go, 0, none⟩) 10 co) ∧ w''.cell? ⟨go, j, none⟩ = some (.int .i64 (o : Nat)) ∧ w''.cell? ⟨tw, 4, none⟩ = some (.slice (some ⟨gw, 0, none⟩) 10 cw) ∧ w''.cell? ⟨gw, j, none⟩ = some (.slice (some ⟨gc, 0, none⟩) 512 cc)) := fun w'' hT => ⟨(hT.cells lset hj hoj hxj).c3, (hT.cells lset hj hoj hxj).ck, (hT.cells lset hj hoj hxj).c4, (hT.cells lset hj hoj hxj).cx⟩
          have k0 := hS3 _ dT
          clear z3 zk XZ TZ NZ QZ hbs
          go_wp2_with fail
          go_region_held3 (fun w'' => w''.cell? ⟨tw, 3, none⟩ = some (.slice (some ⟨go, 0, none⟩) 10 co) ∧ w''.cell? ⟨go, j, none⟩ = some (.int .i64 (o : Nat)) ∧ w''.cell? ⟨tw, 4, none⟩ = some (.slice (some ⟨gw, 0, none⟩) 10 cw) ∧ w''.cell? ⟨gw, j, none⟩ = some (.slice (some ⟨gc, 0, none⟩) 512 cc))
            (first | exact k0 | exact k1)
            (first
              | (go_at_call 43; refine mR.mono ?_; rintro e' wy ⟨rfl, RQ⟩; have k1 := hS3 _ (dT.kp (Kp.same RQ.tr))))
          have HX : Hid (OwE w wy G N jb bm tb wm tw db bk (.slice (some ⟨go, 0, none⟩) 10 co) (.slice (some ⟨gw, 0, none⟩) 10 cw) nb (q + 1)) := by
            obtain ⟨B', C', hQ', hB', hC'⟩ := RQ.Q
            have sv9 : wv.drew.heap.size = wv.heap.size := rfl
            have hH' : ∀ i, (G i ∨ B' i ∨ C' i) → (G i ∨ B i ∨ C i) ∨ wv.drew.heap.size ≤ i := fun i r => by
              rcases r with r | r | r
              · exact Or.inl (Or.inl r)
              · exact (hB' i r).imp (fun r => Or.inr (Or.inl r)) id
              · exact (hC' i r).imp (fun r => Or.inr (Or.inr r)) id
            refine ⟨ns + 1, mput m o gv, updF f o (blkB e.ds), xs1.set j ⟨gc, cc, blkB e.ds⟩, B', C', RQ.X, dT.to (Kp.same RQ.tr) hH', lset, seeZ, fun p hp => (mput_mem hp).elim (fun e9 => by rw [e9]; exact hom) (hmo9 p), (Nv.kp (Kp.below drb)).to (Kp.same RQ.tr) hH', by rw [show 3 * (q + 1) = 3 * q + 3 by omega, show 2 * (q + 1) = 2 * q + 2 by omega]; exact hQ', ?_, by omega, (BV.trans (drb.mono BV.size)).trans (RQ.tr.below (fun i r => by
              rcases r with r | r | r
              · exact gB i r
              · exact (QV.bB i r).1
              · exact (QV.bC i r).1) BV.size)⟩
            have h9 := XV.lt wv.heap.size (Nat.le_refl _)
            exact ((hapv.sub (Z := fun k => B k ∨ C k) (fun k r => Or.inr r)).or h9).sub (fun k r => by
              rcases r with r | r
              · exact (hB' k r).imp Or.inl id
              · exact (hC' k r).imp Or.inr id)
          clear k0 k1 dT mR XV TV QV Nv RQ hit hS3 hapv
          go_wp2_with fail
          go_roundw
          case rel => exact ⟨q + 1, by omega, by go_num, rfl, HX.out⟩
          case measure => simp [intOf]; omega
    · have hqi : ¬ (q : Int) < np := by omega
      obtain rfl : q = np := by omega
      have hm10 := outs_few I.X.M.ris I.mo
      have hGn := I.X.D.lt
      go_wp2_with fail
      refine (commitO I.X hm10 (outs_low I.mo) (by omega)).mono ?_
      rintro e' w6 ⟨rfl, CO⟩
      obtain ⟨S6, N6, G6, seq6, place6, free6, nd6, a6, fa6, ho6, J6, hG6, ha6, hs6⟩ := CO.ex
      have hYB : ∀ k, (G k ∨ k = bm ∨ k = jb ∨ k = tb) → ¬ (B k ∨ C k) := fun k r => by
        rcases r with r | r | r | r
        · exact I.ap.gg k r
        · rw [r]; exact I.ap.gb
        · rw [r]; exact I.ap.gj
        · rw [r]; exact I.ap.gt
      have Q6 := I.Q.turns CO.tr (fun k hk r => hYB k r (Or.inl hk)) (fun k hk r => hYB k r (Or.inr hk))
      have hIb := I.Q.bB
      have hIc := I.Q.bC
      have T6 : Tn w6 (fun k => G6 k ∨ B k ∨ C k) tw db (.slice (some ⟨go, 0, none⟩) 10 co) (.slice (some ⟨gw, 0, none⟩) 10 cw) (outs 40) xs1 := I.T.to (Kp.turns CO.tr (fun x cs ty fz g hx ht r => by
        rcases r with r | r | r | r
        · exact g (Or.inl r)
        · exact mp_cells I.X.A hx r
        · exact jty_jb I.X.J hx ht r
        · exact jty_tb I.X.T hx ht r)) (fun i r => by
        rcases r with r | r
        · exact (hG6 i r).imp Or.inl id
        · exact Or.inl (Or.inr r))
      have sr := I.bw.size
      have B6 := I.bw.trans (CO.tr.below (fun i r => by
        have := OB.b
        have := OB.j
        have := OB.t
        rcases r with r | r | r | r
        · exact gB i r
        · omega
        · omega
        · omega) sr)
      have gB6 : ∀ i, G6 i → w.heap.size ≤ i := fun i r => (hG6 i r).elim (gB i) (fun r => by omega)
      have see6 : ∀ (i o : Nat) (x : It), (outs 40)[i]? = some o → xs1[i]? = some x → x.bs = seesF S6 [] fa6 a6 fa6 o := fun i o x ho hx => by
        have h3 := outs_in (List.mem_of_getElem? ho)
        rw [I.see i o x ho hx, hs6 o (by omega)]
      have hxl1 := I.xl
      have hav : ∀ p ∈ a6, ¬ (B p.2 ∨ C p.2) := fun p hp => I.ap.gv p (ha6 p hp)
      have hgg6 : ∀ i, G6 i → ¬ (B i ∨ C i) := fun i hi r => (hG6 i hi).elim (fun q => I.ap.gg i q r) (fun q => by
        rcases r with r | r
        · have := hIb i r; omega
        · have := hIc i r; omega)
      have hgj := I.ap.gj
      have hgb := I.ap.gb
      have s6 := CO.tr.size
      clear CO I hs6
      go_wp2_with fail
      refine (Tx.begin J6 ho6 fa6).mono ?_
      rintro e' w7 ⟨t7, m7, rfl, l7, l7', X7, u7⟩
      have hGw6 := J6.D.lt
      have Q7 := Q6.turns u7 (fun k hk r => r.elim (fun r => hgg6 k r (Or.inl hk)) (fun r => hgj (r ▸ Or.inl hk))) (fun k hk r => r.elim (fun r => hgg6 k r (Or.inr hk)) (fun r => hgj (r ▸ Or.inr hk)))
      have T7 := T6.kp (Kp.turns u7 (fun x cs ty fz g hx ht e => e.elim (fun r => g (Or.inl r)) (jty_jb J6.J hx ht)))
      have B7 := B6.trans (u7.below (fun i r => r.elim (gB6 i) (fun e => by have := OB.j; omega)) B6.size)
      have AP7 : Apart G6 jb bm a6 t7 m7 [] (fun k => B k ∨ C k) := by
        refine ⟨hgg6, hgj, hgb, fun r => ?_, fun r => ?_, (fun p hp => by cases hp), hav⟩
        · rcases r with r | r
          · have := hIb _ r; omega
          · have := hIc _ r; omega
        · rcases r with r | r
          · have := hIb _ r; omega
          · have := hIc _ r; omega
      have HI : Hid (Ow2 w w7 G6 S6 N6 jb bm t7 m7 tw db bk (.slice (some ⟨go, 0, none⟩) 10 co) (.slice (some ⟨gw, 0, none⟩) 10 cw) seq6 place6 free6 nd6 a6 fa6 xs1 (q + 0)) := ⟨B, C, X7, T7, Q7, AP7, B7⟩
      have l7B : w.heap.size ≤ t7 := by omega
      clear X7 T7 Q7 AP7 B7 u7 J6 Q6 T6 B6 hav hgg6 hgj hgb hIb hIc
      go_wp2_with (go_at_call 15; refine (num7 _ _).mono ?_; rintro e' wn ⟨rfl, hwn⟩; subst wn)
      go_loopw [3, 18] (fun u i wq => ∃ p : Nat, p ≤ 10 ∧ i = .int .i64 p ∧ u = .bool true ∧ Ow2 w wq G6 S6 N6 jb bm t7 m7 tw db bk (.slice (some ⟨go, 0, none⟩) 10 co) (.slice (some ⟨gw, 0, none⟩) 10 cw) seq6 place6 free6 nd6 a6 fa6 xs1 (q + p)) (fun _ i _ => 10 - (intOf i).toNat)
      case atStart => exact ⟨0, by omega, rfl, rfl, HI.out⟩
      case round =>
        clear HI
        obtain ⟨p, hp, rfl, rfl, B, C, X, T, Q, AP, Bq⟩ := hrel
        by_cases hpl : p < 10
        · have hpi : (p : Int) < 10 := by omega
          obtain ⟨o, hoj⟩ : ∃ o, (outs 40)[p]? = some o := ⟨_, List.getElem?_eq_getElem (by rw [outs_len]; exact hpl)⟩
          have hoo := outs_in (List.mem_of_getElem? hoj)
          obtain ⟨x9, hx9⟩ : ∃ x, xs1[p]? = some x := ⟨_, List.getElem?_eq_getElem (by rw [hxl1]; exact hpl)⟩
          have drb : Below wr.heap.size wr wr.drew := ⟨rfl, rfl, rfl, Nat.le_refl _, fun _ _ => rfl⟩
          have dT := T.kp (Kp.below drb)
          have hit := dT.x.it x9 (List.mem_of_getElem? hx9)
          have hbs := see6 p o x9 hoj hx9
          have mR := reads_any (X.below drb) ho6 (by omega) (by simp) (Q.turns (Below.turns drb (fun _ => False)) (fun _ _ => id) (fun _ _ => id)) Bq.size AP (by omega) (by omega) o hoo.1 (by omega) (wa := some ⟨x9.g, 0, none⟩) (wc := x9.cap) (by rw [← hbs]; exact hit.lies) (fun ad h => by cases h; exact hit.ng) (sv2 := .slice none 0 0) ⟨⟨rfl, Or.inl ⟨rfl, rfl⟩⟩, (fun b hb => by cases hb)⟩
          have hS3 : ∀ w'' : World, Tn w'' (fun k => G6 k ∨ B k ∨ C k) tw db (.slice (some ⟨go, 0, none⟩) 10 co) (.slice (some ⟨gw, 0, none⟩) 10 cw) (outs 40) xs1 → (w''.cell? ⟨tw, 3, none⟩ = some (.slice (some ⟨go, 0, none⟩) 10 co) ∧ w''.cell? ⟨go, p, none⟩ = some (.int .i64 (o : Nat)) ∧ w''.cell? ⟨tw, 4, none⟩ = some (.slice (some ⟨gw, 0, none⟩) 10 cw) ∧ w''.cell? ⟨gw, p, none⟩ = some (.slice (some ⟨x9.g, 0, none⟩) 512 x9.cap)) := fun w'' hT => ⟨(hT.cells hxl1 hpl hoj hx9).c3, (hT.cells hxl1 hpl hoj hx9).ck, (hT.cells hxl1 hpl hoj hx9).c4, (hT.cells hxl1 hpl hoj hx9).cx⟩
          have k0 := hS3 _ dT
          have y3 := (T.cells hxl1 hpl hoj hx9).c3
          clear hbs
          go_wp2_with fail
          go_region_held3 (fun w'' => w''.cell? ⟨tw, 3, none⟩ = some (.slice (some ⟨go, 0, none⟩) 10 co) ∧ w''.cell? ⟨go, p, none⟩ = some (.int .i64 (o : Nat)) ∧ w''.cell? ⟨tw, 4, none⟩ = some (.slice (some ⟨gw, 0, none⟩) 10 cw) ∧ w''.cell? ⟨gw, p, none⟩ = some (.slice (some ⟨x9.g, 0, none⟩) 512 x9.cap))
            (first | exact k0 | exact k1)
            (first
              | (go_at_call 43; refine mR.mono ?_; rintro e' wy ⟨rfl, RQ⟩; have k1 := hS3 _ (dT.kp (Kp.same RQ.tr))))
          have HX : Hid (Ow2 w wy G6 S6 N6 jb bm t7 m7 tw db bk (.slice (some ⟨go, 0, none⟩) 10 co) (.slice (some ⟨gw, 0, none⟩) 10 cw) seq6 place6 free6 nd6 a6 fa6 xs1 (q + (p + 1))) := by
            obtain ⟨B', C', hQ', hB', hC'⟩ := RQ.Q
            have h9 := X.lt wr.heap.size (Nat.le_refl _)
            refine ⟨B', C', RQ.X, dT.to (Kp.same RQ.tr) (fun i r => by
              rcases r with r | r | r
              · exact Or.inl (Or.inl r)
              · exact (hB' i r).imp (fun r => Or.inr (Or.inl r)) id
              · exact (hC' i r).imp (fun r => Or.inr (Or.inr r)) id), by rw [show 3 * (q + (p + 1)) = 3 * (q + p) + 3 by omega, show 2 * (q + (p + 1)) = 2 * (q + p) + 2 by omega]; exact hQ', (AP.or h9).sub (fun k r => by
              rcases r with r | r
              · exact (hB' k r).imp Or.inl id
              · exact (hC' k r).imp Or.inr id), (Bq.trans (drb.mono Bq.size)).trans (RQ.tr.below (fun i r => by
              rcases r with r | r | r
              · exact gB6 i r
              · exact (Q.bB i r).1
              · exact (Q.bC i r).1) Bq.size)⟩
          clear k0 k1 dT mR X T Q RQ hit hS3 AP y3
          go_wp2_with fail
          go_roundw
          case rel => exact ⟨p + 1, by omega, by go_num, rfl, HX.out⟩
          case measure => simp [intOf]; omega
        · have hpi : ¬ (p : Int) < 10 := by omega
          have y3 : wr.cell? ⟨tw, 3, none⟩ = some (.slice (some ⟨go, 0, none⟩) 10 co) := by simp [World.cell?, T.box]
          have hBq := Q.bB
          have hCq := Q.bC
          go_wp2_with fail
          refine (Tx.drop X).mono ?_
          rintro e' w8 ⟨rfl, _, J8, u8⟩
          have Q8 := Q.turns u8 (fun k hk r => r.elim (fun r => AP.gt (r ▸ Or.inl hk)) (fun r => AP.gj (r ▸ Or.inl hk))) (fun k hk r => r.elim (fun r => AP.gt (r ▸ Or.inr hk)) (fun r => AP.gj (r ▸ Or.inr hk)))
          have T8 := T.kp (Kp.turns u8 (fun x cs ty fz g hx ht e => e.elim (jty_tb X.T hx ht) (jty_jb X.J hx ht)))
          have B8 := Bq.trans (u8.below (fun i r => r.elim (fun e => by omega) (fun e => by have := OB.j; omega)) Bq.size)
          clear y3
          go_wp2_with fail
          refine (holdsT J8 ho6 (T8.weak (fun k r => Or.inl r)) hxl1 see6).mono ?_
          rintro e' w9 ⟨rfl, u9⟩
          have Q9 := Q8.turns u9 (fun k hk r => r.elim (fun r => AP.gg k r (Or.inl hk)) (fun r => AP.gj (r ▸ Or.inl hk))) (fun k hk r => r.elim (fun r => AP.gg k r (Or.inr hk)) (fun r => AP.gj (r ▸ Or.inr hk)))
          have B9 := B8.trans (u9.below (fun i r => r.elim (gB6 i) (fun e => by have := OB.j; omega)) B8.size)
          obtain ⟨vE, es, fs, hBk, hIk, hes, hfs, hel, hfl⟩ := Q9.ex
          clear X T Q Q8 T8 J8 Q9
          go_wp2_with fail
          refine (bkWhole_any vE _ bk B es w9 hBk (by omega) (fun e he => by have := hel e he; omega)).mono ?_
          rintro e' wA ⟨rfl, bA⟩
          go_wp2_with fail
          refine (stand_any _ bk vE B C es fs wA (hBk.below bA) (hIk.below bA) (by omega) (fun e he => by have := hfl e he; omega)).mono ?_
          rintro e' wB ⟨rfl, bB⟩
          go_wp2_with fail
          go_ret
          exact ⟨rfl, (B9.trans (bA.mono B9.size)).trans (bB.mono (Nat.le_trans B9.size bA.size))⟩
end Go.Proofs.YtnmdnglbpkpfdaaGreatDoor

/- Journals beside one another. -/
namespace Go.Proofs.YtnmdnglbpkpfdaaGreatDoor
open Go.RowKit Go.Maps
set_option maxRecDepth 100000
/-- A journal of its own device, with a transaction. -/
structure Jr where
  db : Nat
  N : Nat
  jb : Nat
  bm : Nat
  tb : Nat
  wm : Nat
  G : Nat → Prop
/-- Its blocks lie in P. -/
structure JrIn (r : Jr) (P : Nat → Prop) : Prop where
  n : r.N ≤ 1000
  g : ∀ k, r.G k → P k
  j : P r.jb
  b : P r.bm
  t : P r.tb
  m : P r.wm
theorem JrIn.mono {r : Jr} {P P' : Nat → Prop} (h : JrIn r P) (q : ∀ k, P k → P' k) : JrIn r P' := ⟨h.n, fun k hk => q k (h.g k hk), q _ h.j, q _ h.b, q _ h.t, q _ h.m⟩
def A0 (r : Jr) (w : World) (P : Nat → Prop) : Prop := Tx w r.db F40 40 r.N r.G r.jb 2 30 1 0 29 r.bm 0 [] (fun _ => []) r.tb r.wm 0 [] (fun _ => []) (.slice none 0 0) 0 ∧ JrIn r P
def A1 (i : Nat) (r : Jr) (w : World) (P : Nat → Prop) : Prop := ∃ g, Tx w r.db F40 40 r.N r.G r.jb 2 30 1 0 29 r.bm 0 [] (fun _ => []) r.tb r.wm 1 [(0, g)] (updF (fun _ => []) 0 (blkB [(i : Int)])) (.slice none 0 0) 0 ∧ JrIn r P ∧ P g
def A2 (i : Nat) (r : Jr) (w : World) (P : Nat → Prop) : Prop := ∃ (seq : Int) (place : Nat) (free : Int) (op : Option Nat) (nd : Nat) (a : List (Nat × Nat)), Jb w r.jb r.db 2 30 seq place free r.bm op ∧ Mp w r.bm nd a ∧ (i % 3 = 0 → seq = 1 ∧ a.length = 0) ∧ (¬ i % 3 = 0 → seq = 2 ∧ a.length = 1) ∧ P r.jb ∧ P r.bm
/-- Of which kind a state of a journal is: it stays where its blocks do. -/
structure Stay (St : Nat → Jr → World → (Nat → Prop) → Prop) : Prop where
  st : ∀ i r w w' P Y, St i r w P → Turns Y w w' → (∀ k, P k → ¬ Y k) → St i r w' P
  up : ∀ i r w P P', St i r w P → (∀ k, P k → P' k) → St i r w P'
theorem A0.stay {r : Jr} {w w' : World} {P Y : Nat → Prop} (h : A0 r w P) (t : Turns Y w w') (hY : ∀ k, P k → ¬ Y k) : A0 r w' P :=
  ⟨h.1.apart t ⟨fun i hi => hY i (h.2.g i hi), hY _ h.2.j, hY _ h.2.b, hY _ h.2.t, hY _ h.2.m, (fun p hp => by cases hp), (fun p hp => by cases hp)⟩, h.2⟩
theorem A1.stay {i : Nat} {r : Jr} {w w' : World} {P Y : Nat → Prop} (h : A1 i r w P) (t : Turns Y w w') (hY : ∀ k, P k → ¬ Y k) : A1 i r w' P := by
  obtain ⟨g, X, I, hg⟩ := h
  exact ⟨g, X.apart t ⟨fun i hi => hY i (I.g i hi), hY _ I.j, hY _ I.b, hY _ I.t, hY _ I.m, fun p hp => by
    simp at hp
    rw [hp]
    exact hY _ hg, (fun p hp => by cases hp)⟩, I, hg⟩
theorem A2.stay {i : Nat} {r : Jr} {w w' : World} {P Y : Nat → Prop} (h : A2 i r w P) (t : Turns Y w w') (hY : ∀ k, P k → ¬ Y k) : A2 i r w' P := by
  obtain ⟨s, p, f, op, nd, a, J, M, h1, h2, h3, h4⟩ := h
  exact ⟨s, p, f, op, nd, a, (t.block _ (heap_lt J) (hY _ h3)).trans J, M.turns t (hY _ h4), h1, h2, h3, h4⟩
/-- The first t are of one kind, the others of another. -/
def Pt2 (A B : Nat → Jr → World → (Nat → Prop) → Prop) (t : Nat) (i : Nat) (r : Jr) (w : World) (P : Nat → Prop) : Prop := (i < t → A i r w P) ∧ (¬ i < t → B i r w P)
theorem stay0 : Stay (fun _ => A0) := ⟨fun _ _ _ _ _ _ h t q => h.stay t q, fun _ _ _ _ _ h q => ⟨h.1, h.2.mono q⟩⟩
theorem stay1 : Stay A1 := ⟨fun _ _ _ _ _ _ h t q => h.stay t q, fun _ _ _ _ _ ⟨g, X, I, hg⟩ q => ⟨g, X, I.mono q, q _ hg⟩⟩
theorem stay2 : Stay A2 := ⟨fun _ _ _ _ _ _ h t q => h.stay t q, fun _ _ _ _ _ ⟨s, p, f, op, nd, a, J, M, h1, h2, h3, h4⟩ q => ⟨s, p, f, op, nd, a, J, M, h1, h2, q _ h3, q _ h4⟩⟩
theorem stayP {A B : Nat → Jr → World → (Nat → Prop) → Prop} (hA : Stay A) (hB : Stay B) (t : Nat) : Stay (Pt2 A B t) :=
  ⟨fun i r w w' P Y h u q => ⟨fun hi => hA.st i r w w' P Y (h.1 hi) u q, fun hi => hB.st i r w w' P Y (h.2 hi) u q⟩, fun i r w P P' h q => ⟨fun hi => hA.up i r w P P' (h.1 hi) q, fun hi => hB.up i r w P P' (h.2 hi) q⟩⟩
/-- Journals beside one another, and two lists that point to them. -/
structure Fam (w0 w : World) (n : Nat) (rs : List Jr) (P : Nat → Nat → Prop) (vj vt : Value) (St : Nat → Jr → World → (Nat → Prop) → Prop) : Prop where
  len : rs.length = n
  st : ∀ (i : Nat) r, rs[i]? = some r → St i r w (P i)
  dis : ∀ i j k, i < n → j < n → i ≠ j → P i k → ¬ P j k
  bd : ∀ i k, i < n → P i k → w0.heap.size ≤ k ∧ k < w.heap.size
  rj : w.ownsRow w0.heap.size 28 1 vj n (rs.map fun r => .pointer (some ⟨r.jb, 0, none⟩))
  rt : w.ownsRow w0.heap.size 31 1 vt n (rs.map fun r => .pointer (some ⟨r.tb, 0, none⟩))
  nj : ∀ b, vj.ownBlock = some b → ∀ i, i < n → ¬ P i b
  nt : ∀ b, vt.ownBlock = some b → ∀ i, i < n → ¬ P i b
  bw : Below w0.heap.size w0 w
theorem Fam.turns {w0 w w' : World} {n : Nat} {rs : List Jr} {P : Nat → Nat → Prop} {vj vt : Value} {St : Nat → Jr → World → (Nat → Prop) → Prop} (h : Fam w0 w n rs P vj vt St) (hS : Stay St) (b : Below w.heap.size w w') : Fam w0 w' n rs P vj vt St := by
  have t := Below.turns b (fun _ => False)
  have := b.size
  exact ⟨h.len, fun i r hr => hS.st _ _ _ _ _ _ (h.st i r hr) t (fun _ _ => id), h.dis, fun i k hi hk => by have := h.bd i k hi hk; omega, own_later h.rj b, own_later h.rt b, h.nj, h.nt, h.bw.trans (b.mono h.bw.size)⟩
/-- One of them does something. -/
theorem Fam.step {w0 w w' : World} {n : Nat} {rs : List Jr} {P : Nat → Nat → Prop} {vj vt : Value} {St St' : Nat → Jr → World → (Nat → Prop) → Prop} (h : Fam w0 w n rs P vj vt St) (hS : Stay St) {i : Nat} {r : Jr} (hi : rs[i]? = some r) {Y : Nat → Prop} (t : Turns Y w w') (hY : ∀ k, Y k → P i k) (hn : St' i r w' (fun k => P i k ∨ (w.heap.size ≤ k ∧ k < w'.heap.size))) (hs : ∀ j r' Q, j ≠ i → St j r' w' Q → St' j r' w' Q) :
    Fam w0 w' n rs (fun j => if j = i then (fun k => P i k ∨ (w.heap.size ≤ k ∧ k < w'.heap.size)) else P j) vj vt St' := by
  have hil : i < n := by rw [← h.len]; exact (List.getElem?_eq_some_iff.1 hi).1
  have sz := t.size
  have lj := h.rj.lt
  have lt := h.rt.lt
  have b0 := h.bw.size
  refine ⟨h.len, fun j r' hj => ?_, fun a b k ha hb hab hP hQ => ?_, fun a k ha hP => ?_, own_turns h.rj t (fun b hb q => h.nj b hb i hil (hY b q)), own_turns h.rt t (fun b hb q => h.nt b hb i hil (hY b q)), fun b hb a ha hP => ?_, fun b hb a ha hP => ?_, h.bw.trans (t.below (fun k q => (h.bd i k hil (hY k q)).1) b0)⟩
  · by_cases e : j = i
    · subst e
      rw [hi] at hj
      cases hj
      rw [if_pos rfl]
      exact hn
    · rw [if_neg e]
      have hjl : j < n := by rw [← h.len]; exact (List.getElem?_eq_some_iff.1 hj).1
      exact hs j r' _ e (hS.st _ _ _ _ _ _ (h.st j r' hj) t (fun k hk q => h.dis j i k hjl hil e hk (hY k q)))
  · by_cases e1 : a = i
    · rw [if_pos e1] at hP
      have e2 : ¬ b = i := fun q => hab (e1.trans q.symm)
      rw [if_neg e2] at hQ
      rcases hP with hP | hP
      · exact h.dis i b k hil hb (fun q => e2 q.symm) hP hQ
      · have := h.bd b k hb hQ; omega
    · rw [if_neg e1] at hP
      by_cases e2 : b = i
      · rw [if_pos e2] at hQ
        rcases hQ with hQ | hQ
        · exact h.dis a i k ha hil e1 hP hQ
        · have := h.bd a k ha hP; omega
      · rw [if_neg e2] at hQ
        exact h.dis a b k ha hb hab hP hQ
  · by_cases e : a = i
    · rw [if_pos e] at hP
      rcases hP with hP | hP
      · have := h.bd i k hil hP; omega
      · omega
    · rw [if_neg e] at hP
      have := h.bd a k ha hP; omega
  · by_cases e : a = i
    · rw [if_pos e] at hP
      rcases hP with hP | hP
      · exact h.nj b hb i hil hP
      · have := lj b hb; omega
    · rw [if_neg e] at hP
      exact h.nj b hb a ha hP
  · by_cases e : a = i
    · rw [if_pos e] at hP
      rcases hP with hP | hP
      · exact h.nt b hb i hil hP
      · have := lt b hb; omega
    · rw [if_neg e] at hP
      exact h.nt b hb a ha hP
theorem Fam.next {w0 w : World} {n : Nat} {rs : List Jr} {P : Nat → Nat → Prop} {vj vt : Value} {St St' : Nat → Jr → World → (Nat → Prop) → Prop} (h : Fam w0 w n rs P vj vt St) (hs : ∀ i r Q, i < n → St i r w Q → St' i r w Q) : Fam w0 w n rs P vj vt St' :=
  { h with st := fun i r hr => hs i r _ (by rw [← h.len]; exact (List.getElem?_eq_some_iff.1 hr).1) (h.st i r hr) }
end Go.Proofs.YtnmdnglbpkpfdaaGreatDoor
