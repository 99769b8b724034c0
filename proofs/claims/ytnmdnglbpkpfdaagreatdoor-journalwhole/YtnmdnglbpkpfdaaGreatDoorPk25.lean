/- JournalEvery. -/
import Derived.Test.YtnmdnglbpkpfdaaGreatDoorPk24
namespace Go.Proofs.YtnmdnglbpkpfdaaGreatDoor
open Go.RowKit Go.Maps
set_option maxRecDepth 100000
theorem RsI.below {w w' : World} {G : Nat → Prop} {M Q tw db k st sz : Nat} {ov : Value} {os : List Nat} (h : RsI w G M Q tw db k st sz ov os) (b : Below w.heap.size w w') : RsI w' G M Q tw db k st sz ov os := by
  obtain ⟨S, N, seq, place, free, T, q0, p0, wv, xs, D, L, C, Tr, hxl, hse, hN, hq⟩ := h.ex
  exact ⟨S, N, seq, place, free, T, q0, p0, wv, xs, D.below b, L, C, Tr.kp (Kp.below b), hxl, hse, hN, hq⟩
theorem RsI.lt {w : World} {G : Nat → Prop} {M Q tw db k st sz : Nat} {ov : Value} {os : List Nat} (h : RsI w G M Q tw db k st sz ov os) : tw < w.heap.size ∧ ∀ i, G i → i < w.heap.size := by
  obtain ⟨S, N, seq, place, free, T, q0, p0, wv, xs, D, L, C, Tr, hxl, hse, hN, hq⟩ := h.ex
  exact ⟨heap_lt Tr.box, D.lt⟩
theorem Tryz.info4 : (Tryz.prog.info? 4).map (fun i => (i.zero, i.size, i.bytes)) = some (some (.bool false), 1, 1) := by kernel_rfl
theorem KLies.row {w : World} {base n : Nat} {ao : Option Addr} {c : Nat} {ks : List Bool} (h : w.ownsRow base 4 1 (.slice ao n c) n (ks.map Value.bool)) : KLies w ao n c ks := by
  have hl : ks.length = n := by simpa using h.1
  rcases h.2 with ⟨hv, h0⟩ | ⟨g, cap, cur, hv, _, _, hnc, _⟩
  · cases hv
    obtain rfl : ks = [] := List.eq_nil_of_length_eq_zero hl
    exact KLies.nil w
  · cases hv
    refine ⟨hl, hnc, fun j b hj => ⟨g, 0, rfl, ?_⟩⟩
    have hjl := (List.getElem?_eq_some_iff.1 hj).1
    rw [Nat.zero_add, h.cellAt j (by omega)]
    simp [hj]
/-- A fall whose list of survivors is being made. -/
def FkI (w3 wr : World) (t : Int) (b : Bool) (q : Nat) : Prop := ∃ v, wr.heap[w3.heap.size]? = some (.cells #[.int .i64 t, v] 76) ∧ wr.ownsRow w3.heap.size 4 1 v q (List.replicate q (.bool b)) ∧ Below w3.heap.size w3 wr
set_option maxHeartbeats 8000000 in
theorem every_any (er : Nat → Addr) (w : World) (hE : Errs w er) (hg : ErT w) (ao : Option Addr) (nt ct : Nat) (ts : List TxIn) (bo : Option Addr) (np pc : Nat) (ps : List Pt) (ko : Option Addr) (nk kc : Nat) (ks : List Bool) (hnt : nt ≤ 140737488355328) (hTs : TxsLies w ao nt ts) (hnp : np ≤ 140737488355328) (hP : PtLies w bo np ps) (hnk : nk ≤ 140737488355328) (hK : KLies w ko nk kc ks) :
    Calls Tryz.prog 5 #[.slice ao nt ct, .slice bo np pc, .slice ko nk kc] w fun e w' => e = .returned (.bool true) ∧ Below w.heap.size w w' := by
  have hg0 := hg.lt
  go_enter Tryz.func5, Tryz.ntmps5
  go_wp2_with fail
  refine (head7 er w hE).mono ?_
  rintro e w1 ⟨rfl, B1⟩
  go_wp2_with fail
  go_loopw [7, 8] (fun u i wr => ∃ t : Nat, 1 ≤ t ∧ t ≤ 61 ∧ i = .int .i64 t ∧ u = .bool true ∧ Below w.heap.size w wr) (fun _ i _ => 61 - (intOf i).toNat)
  case atStart => exact ⟨1, Nat.le_refl _, by omega, rfl, rfl, B1⟩
  case round =>
    obtain ⟨t, ht1, ht2, rfl, rfl, Br⟩ := hrel
    by_cases hlt : t ≤ 60
    · have hi1 : (t : Int) ≤ 60 := by omega
      go_wp2_with fail
      go_loopw [7, 9] (fun u i wq => ∃ p : Nat, p ≤ 3 ∧ i = .int .i64 p ∧ u = .bool true ∧ Below w.heap.size w wq) (fun _ i _ => 3 - (intOf i).toNat)
      case atStart => exact ⟨0, by omega, rfl, rfl, Br⟩
      case round =>
        obtain ⟨p, hp, rfl, rfl, Bq⟩ := hrel
        by_cases hlp : p < 3
        · have hpi : (p : Int) < 3 := by omega
          go_wp2_with fail
          refine (townR wr 0 0 0).mono ?_
          rintro e w2 ⟨⟨k, st, sz, tw, db, n, F, ov, os, rfl, P, R2, hF, ltw⟩, b2⟩
          have sq := Bq.size
          have B2 : Below w.heap.size w w2 := Bq.trans (b2.mono sq)
          have s2 := b2.size
          have ph := P.h
          have hFw : ∀ i, F i → w.heap.size ≤ i := fun i r => by have := hF i r; omega
          have tB : ∀ W', Turns (fun i => F i ∨ i = tw) w2 W' → Below w.heap.size w W' := fun W' t => B2.trans (t.below (fun i r => r.elim (hFw i) (fun e => by omega)) B2.size)
          have HRun : Hid (Calls Tryz.prog 37 #[.pointer (some ⟨tw, 0, none⟩), .slice ao nt ct, .agg #[.int .i64 0, .slice none 0 0]] w2 fun e w' => e = .returned (.bool true) ∧ RunR w2 w' F (1000 + 1000000) (1 + 100) tw db k st sz ov os) := run_any er hE hg B2 R2 hFw (by omega) P.ol P.n1 P.nd P.os (by omega) (by omega) ao nt ct ts hnt hTs.hlen hTs.parts (fun W' t => hTs.row (tB W' t)) 0 (by omega) none 0 0 [] (by omega) rfl (fun W' _ => KLies.nil W')
          go_wp2_with fail
          refine HRun.out.mono ?_
          rintro e w3 ⟨rfl, R3⟩
          obtain ⟨G3, RR, hG3⟩ := R3.ex
          have B3 : Below w.heap.size w w3 := tB w3 R3.tr
          have gB3 : ∀ i, G3 i → w.heap.size ≤ i := fun i hi => (hG3 i hi).elim (hFw i) (fun r => by omega)
          have s3 := B3.size
          have lt3 := RR.lt
          clear HRun R3 tB R2 B2 b2
          by_cases hp1 : p = 0
          · as_aux_lemma =>
              have hp0 : ¬ (0 : Int) < p := by omega
              have hp0' : ¬ 0 < p := by omega
              go_wp2_with fail
              obtain ⟨wf, hwf⟩ : ∃ wf, w3.alloc (Obj.cells #[Value.int IntKind.i64 (t : Nat), Value.slice ko nk kc] 76) = wf := ⟨_, rfl⟩
              have bf : Below w3.heap.size w3 wf := by rw [← hwf]; exact (Below.refl _ w3).alloc (Nat.le_refl _) _
              have sf : wf.heap.size = w3.heap.size + 1 := by rw [← hwf]; simp
              obtain ⟨ws, hws⟩ : ∃ ws, wf.alloc (Obj.cells #[Value.slice bo np pc] 23) = ws := ⟨_, rfl⟩
              have bws : Below w3.heap.size w3 ws := bf.trans (by rw [← hws]; exact (Below.refl _ wf).alloc (by omega) _)
              obtain ⟨rb, hrb⟩ : ∃ rb, w3.heap.size + 1 = rb := ⟨_, rfl⟩
              have hrow : ws.heap[rb]? = some (.cells #[.slice bo np pc] 23) := by rw [← hws, ← hrb, ← sf]; exact (MapKept.heap_alloc wf _).1
              rw [hwf, hws, hrb]
              clear hwf hws
              have lrb := heap_lt hrow
              have RW := RR.below bws
              have Bws : Below w.heap.size w ws := B3.trans (bws.mono s3)
              have trb : ∀ W', Turns (fun i => G3 i ∨ i = tw) ws W' → W'.cell? ⟨rb, 0, none⟩ = some (.slice bo np pc) := fun W' t' => by
                have := (t'.block rb lrb (fun r => r.elim (fun r => by have := lt3.2 _ r; omega) (fun r => by have := lt3.1; omega))).trans hrow
                simp [World.cell?, this]
              have tBs : ∀ W', Turns (fun i => G3 i ∨ i = tw) ws W' → Below w.heap.size w W' := fun W' t' => Bws.trans (t'.below (fun i r => r.elim (gB3 i) (fun e => by omega)) Bws.size)
              have HRun2 : Hid (Calls Tryz.prog 37 #[.pointer (some ⟨tw, 0, none⟩), .slice (some ⟨rb, 0, none⟩) 1 1, .agg #[.int .i64 (t : Nat), .slice ko nk kc]] ws fun e w' => e = .returned (.bool true) ∧ RunR ws w' G3 (1000 + 1000000 + 1000000) (1 + 100 + 100) tw db k st sz ov os) := run_any er hE hg Bws RW gB3 (by omega) P.ol P.n1 P.nd P.os (by omega) (by omega) (some ⟨rb, 0, none⟩) 1 1 [⟨bo, np, pc, ps⟩] (by omega) rfl (fun x hx => by simp at hx; subst hx; exact ⟨hP, hnp⟩) (fun W' t' j x hx => by
                match j, hx with
                | 0, hx => cases hx; exact ⟨rb, 0, rfl, trb W' t'⟩
                | j + 1, hx => simp at hx) (t : Nat) (by omega) ko nk kc ks hnk hK.hlen (fun W' t' => hK.later (tBs W' t'))
              clear trb
              refine HRun2.out.mono ?_
              rintro e w5 ⟨rfl, R5⟩
              obtain ⟨G5, RR5, hG5⟩ := R5.ex
              have B5 : Below w.heap.size w w5 := tBs w5 R5.tr
              have sws := Bws.size
              have gB5 : ∀ i, G5 i → w.heap.size ≤ i := fun i hi => (hG5 i hi).elim (gB3 i) (fun r => by omega)
              have hEF : ∀ w', Turns G5 w5 w' → Errs w' er := fun w' t => hE.below (B5.trans (t.below gB5 B5.size)) (Nat.le_refl _)
              clear HRun2 R5 tBs RW RR hrow
              go_wp2_with fail
              refine (openR RR5 P.os (by omega) (by omega) hEF).mono ?_
              rintro e w6 ⟨jb, tk, rfl, O6⟩
              have B6 : Below w.heap.size w w6 := B5.trans (O6.tr.below gB5 B5.size)
              go_wp2_with fail
              refine (holdsR O6 P B5.size gB5).mono ?_
              rintro e w7 ⟨rfl, b7, _⟩
              have B7 := B6.trans b7
              clear O6 RR5 hEF
              go_wp2_with fail
              go_roundw
              case rel => exact ⟨p + 1, by omega, by go_num, rfl, B7⟩
              case measure => first | (simp [intOf]; omega) | simp [intOf]
          · have hp0 : (0 : Int) < p := by omega
            have hp0' : 0 < p := by omega
            as_aux_lemma =>
              rcases (show p = 1 ∨ p = 2 by omega) with rfl | rfl
              · obtain ⟨i0, hi, hz0, hz1, hz2⟩ := info_parts Tryz.info4
                go_wp2_with fail
                obtain ⟨wf, hwf⟩ : ∃ wf, w3.alloc (Obj.cells #[Value.int IntKind.i64 (t : Nat), Value.slice none 0 0] 76) = wf := ⟨_, rfl⟩
                have HF : Hid (FkI w3 wf (t : Nat) true 0) := by
                  rw [← hwf]
                  exact ⟨_, (MapKept.heap_alloc w3 _).1, World.ownsRow_nil _ _ _ _, (Below.refl _ w3).alloc (Nat.le_refl _) _⟩
                rw [hwf]
                clear hwf
                go_loopw [13] (fun i wr => ∃ q : Nat, q ≤ 60 ∧ i = .int .i64 q ∧ FkI w3 wr (t : Nat) true q) (fun i _ => 60 - (intOf i).toNat)
                case atStart => exact ⟨0, by omega, rfl, HF.out⟩
                case round =>
                  clear HF
                  obtain ⟨q, hq, rfl, v, hbox, hr, bq⟩ := hrel
                  have y1 : wr.cell? ⟨w3.heap.size, 1, none⟩ = some v := by simp [World.cell?, hbox]
                  have lb := heap_lt hbox
                  by_cases hlq : q < 60
                  · have hqi : (q : Int) < 60 := by omega
                    go_wp2_with (first
                      | (at_builtin; refine wpList_append_lies _ rfl _ _ 73 rfl w3.heap.size 4 i0 (.bool false) 1 1 Tryz.underlying73 hi hz0 hz1 hz2 rfl (by decide) v q _ rfl (hr.alloc _) ⟨wr.heap.size, 0, none⟩ 1 1 [.bool true] rfl rfl (cell_one7 _ _ _) (by intro u hu; simp at hu; subst hu; rfl) (by decide) (by unfold maxLen; omega) (by omega) (by simp; omega) _ rfl ?_; intro g5 c5 w5 ho5 hg5 hat5 hlt5; have t5 : Turns (fun i => v.ownBlock = some i) wr w5 := (Turns.alloc _ wr _).trans (Turns.grown hg5 (fun b hb => hb)) (fun _ _ e => e); have hb5 := (t5.block _ lb (own_typeJ hr hbox (by decide))).trans hbox; have z1 : w5.cell? ⟨w3.heap.size, 1, none⟩ = some v := by { simp [World.cell?, hb5] }; have zf : w5.frozen? ⟨w3.heap.size, 1, none⟩ = false := by { simp [World.frozen?, hb5] }))
                    have HX : Hid (FkI w3 (w5.setCell ⟨w3.heap.size, 1, none⟩ (.slice (some ⟨g5, 0, none⟩) (q + 1) c5)) (t : Nat) true (q + 1)) := by
                      have u6 := Turns.cell w5 w3.heap.size 1 (.slice (some ⟨g5, 0, none⟩) (q + 1) c5)
                      have ho5 : w5.ownsRow w3.heap.size 4 1 (.slice (some ⟨g5, 0, none⟩) (q + 1) c5) (q + 1) (List.replicate (q + 1) (.bool true)) := by
                        rw [List.replicate_succ']
                        exact ho5
                      refine ⟨_, heap_setCell_same _ w3.heap.size 1 _ _ _ hb5, own_turn1 ho5 hb5 (by decide) u6, (bq.trans (t5.below (fun i e => (hr.lt i e).1) bq.size)).trans (u6.below (fun i e => by omega) ?_)⟩
                      have := t5.size
                      omega
                    clear z1 zf hb5 t5 ho5 hr hbox y1
                    go_wp2_with fail
                    go_roundw
                    case rel => exact ⟨q + 1, by omega, by go_num, HX.out⟩
                    case measure => simp [intOf]; omega
                  · have hqi : ¬ (q : Int) < 60 := by omega
                    obtain rfl : q = 60 := by omega
                    obtain ⟨gv, cv, rfl⟩ : ∃ g c, v = .slice (some ⟨g, 0, none⟩) 60 c := by
                      obtain ⟨g, c, e, _⟩ := (row_nat hr).resolve_left (fun q => by omega)
                      exact ⟨g, c, e⟩
                    have hb2 : Below w3.heap.size w3 wr := bq
                    have y0 : wr.cell? ⟨w3.heap.size, 0, none⟩ = some (.int .i64 (t : Nat)) := by simp [World.cell?, hbox]
                    have hKr : KLies wr (some ⟨gv, 0, none⟩) 60 cv (List.replicate 60 true) := KLies.row (by rw [List.map_replicate]; exact hr)
                    have lgv : w3.heap.size ≤ gv := (hr.lt gv rfl).1
                    have lgv2 : gv < wr.heap.size := (hr.lt gv rfl).2
                    clear hr hbox
                    go_wp2_with fail
                    obtain ⟨ws, hws⟩ : ∃ ws, wr.alloc (Obj.cells #[Value.slice bo np pc] 23) = ws := ⟨_, rfl⟩
                    have bw1 : Below wr.heap.size wr ws := by rw [← hws]; exact (Below.refl _ wr).alloc (Nat.le_refl _) _
                    have swr := hb2.size
                    have bws : Below w3.heap.size w3 ws := hb2.trans (bw1.mono swr)
                    have hrow : ws.heap[wr.heap.size]? = some (.cells #[.slice bo np pc] 23) := by rw [← hws]; exact (MapKept.heap_alloc wr _).1
                    have hKs : KLies ws (some ⟨gv, 0, none⟩) 60 cv (List.replicate 60 true) := hKr.turns (Below.turns bw1 (fun _ => False)) (fun _ _ => id)
                    obtain ⟨rb, hrb⟩ : ∃ rb, wr.heap.size = rb := ⟨_, rfl⟩
                    rw [hws]
                    rw [hrb] at hrow ⊢
                    clear hws hKr y0 y1
                    have lrb := heap_lt hrow
                    have RW := RR.below bws
                    have Bws : Below w.heap.size w ws := B3.trans (bws.mono s3)
                    have trb : ∀ W', Turns (fun i => G3 i ∨ i = tw) ws W' → W'.cell? ⟨rb, 0, none⟩ = some (.slice bo np pc) := fun W' t' => by
                      have := (t'.block rb lrb (fun r => r.elim (fun r => by have := lt3.2 _ r; omega) (fun r => by have := lt3.1; omega))).trans hrow
                      simp [World.cell?, this]
                    have tBs : ∀ W', Turns (fun i => G3 i ∨ i = tw) ws W' → Below w.heap.size w W' := fun W' t' => Bws.trans (t'.below (fun i r => r.elim (gB3 i) (fun e => by omega)) Bws.size)
                    have HRun2 : Hid (Calls Tryz.prog 37 #[.pointer (some ⟨tw, 0, none⟩), .slice (some ⟨rb, 0, none⟩) 1 1, .agg #[.int .i64 (t : Nat), .slice (some ⟨gv, 0, none⟩) 60 cv]] ws fun e w' => e = .returned (.bool true) ∧ RunR ws w' G3 (1000 + 1000000 + 1000000) (1 + 100 + 100) tw db k st sz ov os) := run_any er hE hg Bws RW gB3 (by omega) P.ol P.n1 P.nd P.os (by omega) (by omega) (some ⟨rb, 0, none⟩) 1 1 [⟨bo, np, pc, ps⟩] (by omega) rfl (fun x hx => by simp at hx; subst hx; exact ⟨hP, hnp⟩) (fun W' t' j x hx => by
                      match j, hx with
                      | 0, hx => cases hx; exact ⟨rb, 0, rfl, trb W' t'⟩
                      | j + 1, hx => simp at hx) (t : Nat) (by omega) (some ⟨gv, 0, none⟩) 60 cv (List.replicate 60 true) (by omega) (by simp) (fun W' t' => hKs.turns t' (fun ad e r => by cases e; exact r.elim (fun r => by have h9 : gv < w3.heap.size := lt3.2 _ r; omega) (fun r => by have h9 : gv = tw := r; have := lt3.1; omega)))
                    clear trb
                    refine HRun2.out.mono ?_
                    rintro e w5 ⟨rfl, R5⟩
                    obtain ⟨G5, RR5, hG5⟩ := R5.ex
                    have B5 : Below w.heap.size w w5 := tBs w5 R5.tr
                    have sws := Bws.size
                    have gB5 : ∀ i, G5 i → w.heap.size ≤ i := fun i hi => (hG5 i hi).elim (gB3 i) (fun r => by omega)
                    have hEF : ∀ w', Turns G5 w5 w' → Errs w' er := fun w' t => hE.below (B5.trans (t.below gB5 B5.size)) (Nat.le_refl _)
                    clear HRun2 R5 tBs RW RR hrow
                    go_wp2_with fail
                    refine (openR RR5 P.os (by omega) (by omega) hEF).mono ?_
                    rintro e w6 ⟨jb, tk, rfl, O6⟩
                    have B6 : Below w.heap.size w w6 := B5.trans (O6.tr.below gB5 B5.size)
                    go_wp2_with fail
                    refine (holdsR O6 P B5.size gB5).mono ?_
                    rintro e w7 ⟨rfl, b7, _⟩
                    have B7 := B6.trans b7
                    clear O6 RR5 hEF
                    go_wp2_with fail
                    go_roundw
                    case rel => exact ⟨2, by omega, by go_num, rfl, B7⟩
                    case measure => first | (simp [intOf]; omega) | simp [intOf]
              · obtain ⟨i0, hi, hz0, hz1, hz2⟩ := info_parts Tryz.info4
                go_wp2_with fail
                obtain ⟨wf, hwf⟩ : ∃ wf, w3.alloc (Obj.cells #[Value.int IntKind.i64 (t : Nat), Value.slice none 0 0] 76) = wf := ⟨_, rfl⟩
                have HF : Hid (FkI w3 wf (t : Nat) false 0) := by
                  rw [← hwf]
                  exact ⟨_, (MapKept.heap_alloc w3 _).1, World.ownsRow_nil _ _ _ _, (Below.refl _ w3).alloc (Nat.le_refl _) _⟩
                rw [hwf]
                clear hwf
                go_loopw [13] (fun i wr => ∃ q : Nat, q ≤ 60 ∧ i = .int .i64 q ∧ FkI w3 wr (t : Nat) false q) (fun i _ => 60 - (intOf i).toNat)
                case atStart => exact ⟨0, by omega, rfl, HF.out⟩
                case round =>
                  clear HF
                  obtain ⟨q, hq, rfl, v, hbox, hr, bq⟩ := hrel
                  have y1 : wr.cell? ⟨w3.heap.size, 1, none⟩ = some v := by simp [World.cell?, hbox]
                  have lb := heap_lt hbox
                  by_cases hlq : q < 60
                  · have hqi : (q : Int) < 60 := by omega
                    go_wp2_with (first
                      | (at_builtin; refine wpList_append_lies _ rfl _ _ 73 rfl w3.heap.size 4 i0 (.bool false) 1 1 Tryz.underlying73 hi hz0 hz1 hz2 rfl (by decide) v q _ rfl (hr.alloc _) ⟨wr.heap.size, 0, none⟩ 1 1 [.bool false] rfl rfl (cell_one7 _ _ _) (by intro u hu; simp at hu; subst hu; rfl) (by decide) (by unfold maxLen; omega) (by omega) (by simp; omega) _ rfl ?_; intro g5 c5 w5 ho5 hg5 hat5 hlt5; have t5 : Turns (fun i => v.ownBlock = some i) wr w5 := (Turns.alloc _ wr _).trans (Turns.grown hg5 (fun b hb => hb)) (fun _ _ e => e); have hb5 := (t5.block _ lb (own_typeJ hr hbox (by decide))).trans hbox; have z1 : w5.cell? ⟨w3.heap.size, 1, none⟩ = some v := by { simp [World.cell?, hb5] }; have zf : w5.frozen? ⟨w3.heap.size, 1, none⟩ = false := by { simp [World.frozen?, hb5] }))
                    have HX : Hid (FkI w3 (w5.setCell ⟨w3.heap.size, 1, none⟩ (.slice (some ⟨g5, 0, none⟩) (q + 1) c5)) (t : Nat) false (q + 1)) := by
                      have u6 := Turns.cell w5 w3.heap.size 1 (.slice (some ⟨g5, 0, none⟩) (q + 1) c5)
                      have ho5 : w5.ownsRow w3.heap.size 4 1 (.slice (some ⟨g5, 0, none⟩) (q + 1) c5) (q + 1) (List.replicate (q + 1) (.bool false)) := by
                        rw [List.replicate_succ']
                        exact ho5
                      refine ⟨_, heap_setCell_same _ w3.heap.size 1 _ _ _ hb5, own_turn1 ho5 hb5 (by decide) u6, (bq.trans (t5.below (fun i e => (hr.lt i e).1) bq.size)).trans (u6.below (fun i e => by omega) ?_)⟩
                      have := t5.size
                      omega
                    clear z1 zf hb5 t5 ho5 hr hbox y1
                    go_wp2_with fail
                    go_roundw
                    case rel => exact ⟨q + 1, by omega, by go_num, HX.out⟩
                    case measure => simp [intOf]; omega
                  · have hqi : ¬ (q : Int) < 60 := by omega
                    obtain rfl : q = 60 := by omega
                    obtain ⟨gv, cv, rfl⟩ : ∃ g c, v = .slice (some ⟨g, 0, none⟩) 60 c := by
                      obtain ⟨g, c, e, _⟩ := (row_nat hr).resolve_left (fun q => by omega)
                      exact ⟨g, c, e⟩
                    have hb2 : Below w3.heap.size w3 wr := bq
                    have y0 : wr.cell? ⟨w3.heap.size, 0, none⟩ = some (.int .i64 (t : Nat)) := by simp [World.cell?, hbox]
                    have hKr : KLies wr (some ⟨gv, 0, none⟩) 60 cv (List.replicate 60 false) := KLies.row (by rw [List.map_replicate]; exact hr)
                    have lgv : w3.heap.size ≤ gv := (hr.lt gv rfl).1
                    have lgv2 : gv < wr.heap.size := (hr.lt gv rfl).2
                    clear hr hbox
                    go_wp2_with fail
                    obtain ⟨ws, hws⟩ : ∃ ws, wr.alloc (Obj.cells #[Value.slice bo np pc] 23) = ws := ⟨_, rfl⟩
                    have bw1 : Below wr.heap.size wr ws := by rw [← hws]; exact (Below.refl _ wr).alloc (Nat.le_refl _) _
                    have swr := hb2.size
                    have bws : Below w3.heap.size w3 ws := hb2.trans (bw1.mono swr)
                    have hrow : ws.heap[wr.heap.size]? = some (.cells #[.slice bo np pc] 23) := by rw [← hws]; exact (MapKept.heap_alloc wr _).1
                    have hKs : KLies ws (some ⟨gv, 0, none⟩) 60 cv (List.replicate 60 false) := hKr.turns (Below.turns bw1 (fun _ => False)) (fun _ _ => id)
                    obtain ⟨rb, hrb⟩ : ∃ rb, wr.heap.size = rb := ⟨_, rfl⟩
                    rw [hws]
                    rw [hrb] at hrow ⊢
                    clear hws hKr y0 y1
                    have lrb := heap_lt hrow
                    have RW := RR.below bws
                    have Bws : Below w.heap.size w ws := B3.trans (bws.mono s3)
                    have trb : ∀ W', Turns (fun i => G3 i ∨ i = tw) ws W' → W'.cell? ⟨rb, 0, none⟩ = some (.slice bo np pc) := fun W' t' => by
                      have := (t'.block rb lrb (fun r => r.elim (fun r => by have := lt3.2 _ r; omega) (fun r => by have := lt3.1; omega))).trans hrow
                      simp [World.cell?, this]
                    have tBs : ∀ W', Turns (fun i => G3 i ∨ i = tw) ws W' → Below w.heap.size w W' := fun W' t' => Bws.trans (t'.below (fun i r => r.elim (gB3 i) (fun e => by omega)) Bws.size)
                    have HRun2 : Hid (Calls Tryz.prog 37 #[.pointer (some ⟨tw, 0, none⟩), .slice (some ⟨rb, 0, none⟩) 1 1, .agg #[.int .i64 (t : Nat), .slice (some ⟨gv, 0, none⟩) 60 cv]] ws fun e w' => e = .returned (.bool true) ∧ RunR ws w' G3 (1000 + 1000000 + 1000000) (1 + 100 + 100) tw db k st sz ov os) := run_any er hE hg Bws RW gB3 (by omega) P.ol P.n1 P.nd P.os (by omega) (by omega) (some ⟨rb, 0, none⟩) 1 1 [⟨bo, np, pc, ps⟩] (by omega) rfl (fun x hx => by simp at hx; subst hx; exact ⟨hP, hnp⟩) (fun W' t' j x hx => by
                      match j, hx with
                      | 0, hx => cases hx; exact ⟨rb, 0, rfl, trb W' t'⟩
                      | j + 1, hx => simp at hx) (t : Nat) (by omega) (some ⟨gv, 0, none⟩) 60 cv (List.replicate 60 false) (by omega) (by simp) (fun W' t' => hKs.turns t' (fun ad e r => by cases e; exact r.elim (fun r => by have h9 : gv < w3.heap.size := lt3.2 _ r; omega) (fun r => by have h9 : gv = tw := r; have := lt3.1; omega)))
                    clear trb
                    refine HRun2.out.mono ?_
                    rintro e w5 ⟨rfl, R5⟩
                    obtain ⟨G5, RR5, hG5⟩ := R5.ex
                    have B5 : Below w.heap.size w w5 := tBs w5 R5.tr
                    have sws := Bws.size
                    have gB5 : ∀ i, G5 i → w.heap.size ≤ i := fun i hi => (hG5 i hi).elim (gB3 i) (fun r => by omega)
                    have hEF : ∀ w', Turns G5 w5 w' → Errs w' er := fun w' t => hE.below (B5.trans (t.below gB5 B5.size)) (Nat.le_refl _)
                    clear HRun2 R5 tBs RW RR hrow
                    go_wp2_with fail
                    refine (openR RR5 P.os (by omega) (by omega) hEF).mono ?_
                    rintro e w6 ⟨jb, tk, rfl, O6⟩
                    have B6 : Below w.heap.size w w6 := B5.trans (O6.tr.below gB5 B5.size)
                    go_wp2_with fail
                    refine (holdsR O6 P B5.size gB5).mono ?_
                    rintro e w7 ⟨rfl, b7, _⟩
                    have B7 := B6.trans b7
                    clear O6 RR5 hEF
                    go_wp2_with fail
                    go_roundw
                    case rel => exact ⟨3, by omega, by go_num, rfl, B7⟩
                    case measure => first | (simp [intOf]; omega) | simp [intOf]
        · have hpi : ¬ (p : Int) < 3 := by omega
          go_wp2_with fail
          go_roundw
          case rel => exact ⟨t + 1, by omega, by omega, by go_num, rfl, Bq⟩
          case measure => simp [intOf]; omega
    · have hi1 : ¬ (t : Int) ≤ 60 := by omega
      go_wp2_with fail
      go_ret
      exact ⟨rfl, Br⟩
end Go.Proofs.YtnmdnglbpkpfdaaGreatDoor
