/- many by its contract. -/
import Derived.Test.YtnmdnglbpkpfdaaGreatDoorPk16
import Derived.Test.YtnmdnglbpkpfdaaGreatDoorPk13
import Derived.Test.YtnmdnglbpkpfdaaGreatDoorRows
import Derived.Test.YtnmdnglbpkpfdaaGreatDoorPk03
import Derived.Stop.LaidTwo
import Derived.LaidMore
import Derived.ProofKit
import Derived.OpenShut
namespace Go.Proofs.YtnmdnglbpkpfdaaGreatDoor
open Go.RowKit Go.Maps
set_option maxRecDepth 100000
theorem laid_turns {w w' : World} {v v' : Value} {n k : Nat} (hl : Laid w w' v v' n k) : Turns (fun b => v.ownBlock = some b) w w' := by
  have h := Fr.laid (B := fun b => v.ownBlock = some b) hl (fun _ h => h)
  exact ⟨h.os, h.tape, h.output, h.size, h.block⟩
theorem Tryz.infoPj : (Tryz.prog.info? 28).map (fun i => (i.zero, i.size, i.bytes)) = some (some (.pointer none), 1, 8) := by kernel_rfl
theorem Tryz.infoPt : (Tryz.prog.info? 31).map (fun i => (i.zero, i.size, i.bytes)) = some (some (.pointer none), 1, 8) := by kernel_rfl
def FamE (w0 w : World) (n : Nat) (vj vt : Value) (St : Nat → Jr → World → (Nat → Prop) → Prop) : Prop := ∃ rs P, Fam w0 w n rs P vj vt St
/-- One more journal. -/
theorem Fam.add {w0 w w4 w5 w6 : World} {n : Nat} {rs : List Jr} {P : Nat → Nat → Prop} {vj vt vj' vt' : Value} (h : Fam w0 w n rs P vj vt (fun _ => A0)) (b4 : Below w.heap.size w w4) {r : Jr} (hr : A0 r w4 (fun k => w.heap.size ≤ k ∧ k < w4.heap.size)) {oj ot : Obj}
    (hj : w5.ownsRow w0.heap.size 28 1 vj' (n + 1) ((rs.map fun r => .pointer (some ⟨r.jb, 0, none⟩)) ++ [.pointer (some ⟨r.jb, 0, none⟩)])) (lj : Laid (w4.alloc oj) w5 vj vj' n (n + 1))
    (ht : w6.ownsRow w0.heap.size 31 1 vt' (n + 1) ((rs.map fun r => .pointer (some ⟨r.tb, 0, none⟩)) ++ [.pointer (some ⟨r.tb, 0, none⟩)])) (lt : Laid (w5.alloc ot) w6 vt vt' n (n + 1)) : FamE w0 w6 (n + 1) vj' vt' (fun _ => A0) := by
  have s4 := b4.size
  have h4 := h.turns stay0 b4
  have t5 : Turns (fun b => vj.ownBlock = some b) w4 w5 := (Turns.alloc _ w4 oj).trans (laid_turns lj) (fun _ _ r => r)
  have t6 : Turns (fun b => vt.ownBlock = some b) w5 w6 := (Turns.alloc _ w5 ot).trans (laid_turns lt) (fun _ _ r => r)
  have s5 := t5.size
  have s6 := t6.size
  have lj0 := fun b hb => h.rj.lt b hb
  have lt0 := fun b hb => h.rt.lt b hb
  have hvj : ∀ b, vj'.ownBlock = some b → vj.ownBlock = some b ∨ w4.heap.size ≤ b := fun b hb => (laid_at lj b hb).imp id (fun q => by simp at q; omega)
  have hvt : ∀ b, vt'.ownBlock = some b → vt.ownBlock = some b ∨ w4.heap.size ≤ b := fun b hb => (laid_at lt b hb).imp id (fun q => by simp at q; omega)
  have hjt : ∀ b, vj'.ownBlock = some b → vt.ownBlock ≠ some b := fun b hb q => by
    obtain ⟨cs, hh⟩ : ∃ cs, w5.heap[b]? = some (.cells cs 28) := by
      rcases hj.2 with ⟨e, _⟩ | ⟨g, c, cur, e, _, hh, _⟩
      · rw [e] at hb; cases hb
      · rw [e] at hb; cases hb; exact ⟨_, hh⟩
    have h9 : w5.ownsRow w0.heap.size 31 1 vt n (rs.map fun r => .pointer (some ⟨r.tb, 0, none⟩)) := own_turns h4.rt t5 (fun b hb q => by
      rcases h4.rj.2 with ⟨e, _⟩ | ⟨g, c, cur, e, _, hh, _⟩
      · rw [e] at q; cases q
      · rw [e] at q
        cases q
        exact own_typeJ h4.rt hh (by decide) hb)
    exact own_typeJ h9 hh (by decide) q
  refine ⟨rs ++ [r], fun j => if j = n then (fun k => w.heap.size ≤ k ∧ k < w4.heap.size) else P j, by rw [List.length_append, h.len]; rfl, fun i r' hi => ?_, fun a b k ha hb hab hP hQ => ?_, fun a k ha hP => ?_, ?_, by rw [List.map_append]; exact ht, fun b hb a ha hP => ?_, fun b hb a ha hP => ?_, ?_⟩
  · by_cases e : i = n
    · rw [if_pos e]
      rw [e, ← h.len, List.getElem?_concat_length] at hi
      cases hi
      refine (hr.stay t5 (fun k hk q => ?_)).stay t6 (fun k hk q => ?_)
      · have := lj0 k q; omega
      · have := lt0 k q; omega
    · rw [if_neg e]
      have hil : i < n := by
        have := (List.getElem?_eq_some_iff.1 hi).1
        rw [List.length_append, h.len] at this
        simp at this
        omega
      rw [List.getElem?_append_left (by rw [h.len]; exact hil)] at hi
      exact ((h4.st i r' hi).stay t5 (fun k hk q => h.nj k q i hil hk)).stay t6 (fun k hk q => h.nt k q i hil hk)
  · by_cases e1 : a = n
    · rw [if_pos e1] at hP
      rw [if_neg (fun q => hab (e1.trans q.symm))] at hQ
      have := h.bd b k (by omega) hQ
      omega
    · rw [if_neg e1] at hP
      by_cases e2 : b = n
      · rw [if_pos e2] at hQ
        have := h.bd a k (by omega) hP
        omega
      · rw [if_neg e2] at hQ
        exact h.dis a b k (by omega) (by omega) hab hP hQ
  · have b0 := h.bw.size
    by_cases e : a = n
    · rw [if_pos e] at hP
      omega
    · rw [if_neg e] at hP
      have := h.bd a k (by omega) hP
      omega
  · rw [List.map_append]
    exact own_turns hj t6 (fun b hb q => hjt b hb q)
  · by_cases e : a = n
    · rw [if_pos e] at hP
      rcases hvj b hb with q | q
      · have := lj0 b q; omega
      · omega
    · rw [if_neg e] at hP
      rcases hvj b hb with q | q
      · exact h.nj b q a (by omega) hP
      · have := h.bd a b (by omega) hP; omega
  · by_cases e : a = n
    · rw [if_pos e] at hP
      rcases hvt b hb with q | q
      · have := lt0 b q; omega
      · omega
    · rw [if_neg e] at hP
      rcases hvt b hb with q | q
      · exact h.nt b q a (by omega) hP
      · have := h.bd a b (by omega) hP; omega
  · have b0 := h.bw.size
    exact ((h4.bw).trans (t5.below (fun b q => (lj0 b q).1) h4.bw.size)).trans (t6.below (fun b q => (lt0 b q).1) (by omega))
set_option maxHeartbeats 8000000 in
theorem many_any (er : Nat → Addr) (w : World) (hE : Errs w er) : Calls Tryz.prog 41 #[] w fun e w' => e = .returned (.bool true) ∧ Below w.heap.size w w' := by
  obtain ⟨ij, hij, yj0, yj1, yj2⟩ := info_parts Tryz.infoPj
  obtain ⟨it, hit, yt0, yt1, yt2⟩ := info_parts Tryz.infoPt
  go_enter Tryz.func41, Tryz.ntmps41
  go_wp2_with fail
  go_loopw [1, 2, 3] (fun vj vt i wr => ∃ t : Nat, t ≤ 20 ∧ i = .int .i64 t ∧ FamE w wr t vj vt (fun _ => A0)) (fun _ _ i _ => 20 - (intOf i).toNat)
  case atStart => exact ⟨0, by omega, rfl, [], fun _ _ => False, rfl, (fun i r h => by simp at h), (fun _ _ _ h => by omega), (fun _ _ h => by omega), World.ownsRow_nil _ _ _ _, World.ownsRow_nil _ _ _ _, (fun b hb => by cases hb), (fun b hb => by cases hb), Below.refl _ _⟩
  case round =>
    obtain ⟨t, ht, rfl, rs, P, H⟩ := hrel
    by_cases hlt : t < 20
    · have hti : (t : Int) < 20 := by omega
      have sr := H.bw.size
      go_wp2_with fail
      refine (town0w wr).mono ?_
      rintro e w2 ⟨tw, db, N, F, ov, wv, xs, rfl, D2, hN, hF, T2, hxl, hxz, ltw, lov, lwv, b2⟩
      have B2 := H.bw.trans (b2.mono sr)
      have hEF : ∀ w', Turns F w2 w' → Errs w' er := fun w' t => hE.below (B2.trans (t.below (fun i r => by have := hF i r; omega) B2.size)) (Nat.le_refl _)
      go_wp2_with fail
      refine (open7 T2 D2 hEF (fun _ => [])).mono ?_
      rintro e w3 ⟨jb, bm, rfl, lj, lb, G, J3, hG3, T3, t3⟩
      have s2 := b2.size
      have b23 : Below wr.heap.size wr w3 := b2.trans (t3.below (fun i r => hF i r) s2)
      have gB : ∀ i, G i → wr.heap.size ≤ i := fun i r => (hG3 i r).elim (hF i) (fun r => by omega)
      go_wp2_with fail
      refine (Tx.begin J3 F40_calm.on (fun _ => [])).mono ?_
      rintro e w4 ⟨tb, wm, rfl, l1, l2, X4, t4⟩
      have s3 := b23.size
      have b4 : Below wr.heap.size wr w4 := b23.trans (t4.below (fun i r => r.elim (gB i) (fun e => by omega)) s3)
      have H4 := H.turns stay0 b4
      have hGl := X4.D.lt
      have lj4 := heap_lt X4.J
      have lt4 := heap_lt X4.T
      have la4 := X4.A.lt
      have lm4 := X4.M.lt
      have s4 := t4.size
      have hr : A0 ⟨db, N, jb, bm, tb, wm, G⟩ w4 (fun k => wr.heap.size ≤ k ∧ k < w4.heap.size) := ⟨X4, hN, fun k hk => ⟨gB k hk, hGl k hk⟩, ⟨by show wr.heap.size ≤ jb; omega, lj4⟩, ⟨by show wr.heap.size ≤ bm; omega, la4⟩, ⟨by show wr.heap.size ≤ tb; omega, lt4⟩, ⟨by show wr.heap.size ≤ wm; omega, lm4⟩⟩
      have rj4 := H4.rj
      have rt4 := H4.rt
      have sw4 := H4.bw.size
      clear T2 D2 hEF J3 T3 t3 t4 X4
      go_wp2_with (first
        | (at_builtin; refine wpList_append_own_split _ rfl _ _ 135 rfl w.heap.size 28 ij (.pointer none) 1 8 Tryz.underlying135 hij yj0 yj1 yj2 rfl (by decide) _ _ _ rfl (rj4.alloc _) ⟨w4.heap.size, 0, none⟩ 1 1 [.pointer (some ⟨jb, 0, none⟩)] (by decide) rfl rfl (cell_one_new _ _ _) (by intro u hu; simp at hu; subst hu; rfl) (by unfold maxLen; omega) (by omega) (by simp; omega) ?_; intro vj5 w5 hj5 lj5; have rt5 := own_turns rt4 ((Turns.alloc (fun b => u1.ownBlock = some b) w4 _).trans (laid_turns lj5) (fun _ _ r => r)) (fun b hb q => (by { rcases rj4.2 with ⟨e, _⟩ | ⟨g, c, cur, e, _, hh, _⟩; { rw [e] at q; cases q }; { rw [e] at q; cases q; exact own_typeJ rt4 hh (by decide) hb } })); have s5 := (laid_turns lj5).size; have s5' : w4.heap.size ≤ w5.heap.size := (by { simp at s5; omega }))
        | (at_builtin; refine wpList_append_own_split _ rfl _ _ 136 rfl w.heap.size 31 it (.pointer none) 1 8 Tryz.underlying136 hit yt0 yt1 yt2 rfl (by decide) _ _ _ rfl (rt5.alloc _) ⟨w5.heap.size, 0, none⟩ 1 1 [.pointer (some ⟨tb, 0, none⟩)] (by decide) rfl rfl (cell_one_new _ _ _) (by intro u hu; simp at hu; subst hu; rfl) (by unfold maxLen; omega) (by omega) (by simp; omega) ?_; intro vt6 w6 ht6 lt6))
      have HX : Hid (FamE w w6 (t + 1) vj5 vt6 (fun _ => A0)) := H.add b4 hr hj5 lj5 ht6 lt6
      clear H H4 hr rj4 rt4 rt5 hj5 lj5 ht6 lt6
      go_roundw
      case rel => exact ⟨t + 1, by omega, by go_num, HX.out⟩
      case measure => simp [intOf]; omega
    · have hti : ¬ (t : Int) < 20 := by omega
      obtain rfl : t = 20 := by omega
      have HI : Hid (FamE w wr 20 u1 u2 (Pt2 A1 (fun _ => A0) 0)) := ⟨rs, P, H.next (fun i r Q _ h => ⟨fun h9 => by omega, fun _ => h⟩)⟩
      clear H
      go_wp2_with fail
      go_loopw [10] (fun i wr => ∃ t : Nat, t ≤ 20 ∧ i = .int .i64 t ∧ FamE w wr 20 u1 u2 (Pt2 A1 (fun _ => A0) t)) (fun i _ => 20 - (intOf i).toNat)
      case atStart => exact ⟨0, by omega, rfl, HI.out⟩
      case round =>
        clear HI
        obtain ⟨t, ht, rfl, rs, P, H⟩ := hrel
        obtain ⟨aj, cj, hvj⟩ := own_val H.rj
        obtain ⟨at', ct, hvt⟩ := own_val H.rt
        subst hvj hvt
        by_cases hlt : t < 20
        · have hti : (t : Int) < 20 := by omega
          obtain ⟨r, hr⟩ : ∃ r, rs[t]? = some r := ⟨_, List.getElem?_eq_getElem (by rw [H.len]; exact hlt)⟩
          obtain ⟨gt, rfl⟩ : ∃ g, at' = some ⟨g, 0, none⟩ := by
            rcases H.rt.2 with ⟨_, h0⟩ | ⟨g, c, cur, hv, _⟩
            · omega
            · cases hv; exact ⟨g, rfl⟩
          have yt : ∀ w', Fam w w' 20 rs P (.slice aj 20 cj) (.slice (some ⟨gt, 0, none⟩) 20 ct) (Pt2 A1 (fun _ => A0) t) → w'.cell? ⟨gt, t, none⟩ = some (.pointer (some ⟨r.tb, 0, none⟩)) := fun w' h => by
            rw [h.rt.cellAt t (by omega), List.getElem?_map, hr]; rfl
          have yt0' := yt wr H
          have stP := stayP stay1 stay0 t
          have hlu : IntKind.u8.wrap (t : Int) = t := by rw [IntKind.wrap_u8]; omega
          obtain ⟨wA, hwA⟩ : ∃ wA, wr.drew.alloc (.cells #[.int .u8 (t : Int)] 5) = wA := ⟨_, rfl⟩
          have bA : Below wr.heap.size wr wA := by rw [← hwA]; exact (show Below wr.heap.size wr wr.drew from ⟨rfl, rfl, rfl, Nat.le_refl _, fun _ _ => rfl⟩).trans ((Below.refl _ wr.drew).alloc (Nat.le_refl _) _)
          have HA := H.turns stP bA
          have hLA : Lies wA (some ⟨wr.heap.size, 0, none⟩) 1 1 [(t : Int)] := by
            rw [← hwA]
            exact Lies.full (MapKept.heap_alloc wr.drew _).1 rfl
          have mB := block7 (some ⟨wr.heap.size, 0, none⟩) 1 1 [(t : Int)] wA (by omega) hLA
          have k0 : wr.drew.cell? ⟨gt, t, none⟩ = some (.pointer (some ⟨r.tb, 0, none⟩)) := yt0'
          have kA := yt wA HA
          have hyb : ∀ x ∈ [(t : Int)], 0 ≤ x ∧ x ≤ 255 := fun x hx => by simp at hx; omega
          have mW : ∀ (wb : World) (gb cb : Nat), B512 wb wA.heap.size (.slice (some ⟨gb, 0, none⟩) 512 cb) (blkB [(t : Int)]) → Below wA.heap.size wA wb → Calls Tryz.prog 27 #[.pointer (some ⟨r.tb, 0, none⟩), .int .i64 0, .slice (some ⟨gb, 0, none⟩) 512 cb] wb fun e w' => e = .returned (.int .i64 0) ∧ w'.cell? ⟨gt, t, none⟩ = some (.pointer (some ⟨r.tb, 0, none⟩)) ∧ FamE w w' 20 (.slice aj 20 cj) (.slice (some ⟨gt, 0, none⟩) 20 ct) (Pt2 A1 (fun _ => A0) (t + 1)) := fun wb gb cb ob bb => by
            have HB := HA.turns stP bb
            obtain ⟨X, IN⟩ := (HB.st t r hr).2 (by omega)
            have hg : ¬ r.G gb := fun q => by
              have h1 := HA.bd t gb (by omega) (IN.g gb q)
              have h2 := (ob.lt gb rfl).1
              omega
            refine (Tx.write X F40_calm.on (by omega) 0 (by omega) (by omega) (some ⟨gb, 0, none⟩) cb _ (Lies.owned ob) (blkB_by hyb) (fun ad h => by cases h; exact hg) (Or.inr (by simp)) (by omega)).mono ?_
            rintro e w5 ⟨gv, rfl, lgv, X5, t5⟩
            have hgv := heap_lt (X5.V (0, gv) (by simp [mput])).1
            have F5 := HB.step (St' := Pt2 A1 (fun _ => A0) (t + 1)) stP hr t5 (fun k q => q.elim (IN.g k) (fun e => by rw [e]; exact IN.m)) ⟨fun _ => ⟨gv, X5, IN.mono (fun k q => Or.inl q), Or.inr ⟨lgv, hgv⟩⟩, fun q => by omega⟩ (fun j r' Q hj h => ⟨fun q => h.1 (by omega), fun q => h.2 (by omega)⟩)
            refine ⟨rfl, ?_, _, _, F5⟩
            rw [F5.rt.cellAt t (by omega), List.getElem?_map, hr]; rfl
          have ybA : ∀ (wb : World), Below wA.heap.size wA wb → wb.cell? ⟨gt, t, none⟩ = some (.pointer (some ⟨r.tb, 0, none⟩)) := fun wb bb => yt wb (HA.turns stP bb)
          clear H HA hLA
          go_wp2_with fail
          go_region_held3 (fun w' => w'.cell? ⟨gt, t, none⟩ = some (.pointer (some ⟨r.tb, 0, none⟩)))
            (first | exact k0 | exact kA | (rw [hwA]; exact kA) | exact kb | exact k5)
            (first
              | (go_at_call 28; (try rw [hwA]); refine mB.mono ?_; rintro e' wb ⟨gb, cb, rfl, ob, bb⟩; have kb := ybA wb bb)
              | (go_at_call 27; refine (mW wb gb cb ob bb).mono ?_; rintro e' w5 ⟨rfl, k5, HF⟩))
          have HX : Hid (FamE w w5 20 (.slice aj 20 cj) (.slice (some ⟨gt, 0, none⟩) 20 ct) (Pt2 A1 (fun _ => A0) (t + 1))) := HF
          clear HF mB mW
          go_wp2_with (go_at_call 15; refine (num7 _ _).mono ?_; rintro e' wn ⟨rfl, hwn⟩; subst wn)
          go_roundw
          case rel => exact ⟨t + 1, by omega, by go_num, HX.out⟩
          case measure => simp [intOf]; omega
        · have hti : ¬ (t : Int) < 20 := by omega
          obtain rfl : t = 20 := by omega
          have HI : Hid (FamE w wr 20 (.slice aj 20 cj) (.slice at' 20 ct) (Pt2 A2 A1 0)) := ⟨rs, P, H.next (fun i r Q hi h => ⟨fun h9 => by omega, fun _ => h.1 hi⟩)⟩
          clear H
          go_wp2_with fail
          go_loopw [12] (fun i wr => ∃ t : Nat, t ≤ 20 ∧ i = .int .i64 t ∧ FamE w wr 20 (.slice aj 20 cj) (.slice at' 20 ct) (Pt2 A2 A1 t)) (fun i _ => 20 - (intOf i).toNat)
          case atStart => exact ⟨0, by omega, rfl, HI.out⟩
          case round =>
            clear HI
            obtain ⟨t, ht, rfl, rs, P, H⟩ := hrel
            by_cases hlt : t < 20
            · have hti : (t : Int) < 20 := by omega
              obtain ⟨r, hr⟩ : ∃ r, rs[t]? = some r := ⟨_, List.getElem?_eq_getElem (by rw [H.len]; exact hlt)⟩
              obtain ⟨gt, rfl⟩ : ∃ g, at' = some ⟨g, 0, none⟩ := by
                rcases H.rt.2 with ⟨_, h0⟩ | ⟨g, c, cur, hv, _⟩
                · omega
                · cases hv; exact ⟨g, rfl⟩
              have stP := stayP stay2 stay1 t
              have yt : ∀ w' P', Fam w w' 20 rs P' (.slice aj 20 cj) (.slice (some ⟨gt, 0, none⟩) 20 ct) (Pt2 A2 A1 t) → w'.cell? ⟨gt, t, none⟩ = some (.pointer (some ⟨r.tb, 0, none⟩)) := fun w' P' h => by
                rw [h.rt.cellAt t (by omega), List.getElem?_map, hr]; rfl
              have yt0' := yt wr P H
              have mRd : Calls Tryz.prog 33 #[.pointer (some ⟨r.tb, 0, none⟩), .int .i64 0] wr fun e w' => ∃ g, e = .returned (.tuple #[hv g, .int .i64 0]) ∧ w'.heap[g]? = some (bl (blkB [(t : Int)])) ∧ ∃ P', Fam w w' 20 rs P' (.slice aj 20 cj) (.slice (some ⟨gt, 0, none⟩) 20 ct) (Pt2 A2 A1 t) := by
                obtain ⟨g, X, IN, hg⟩ := (H.st t r hr).2 (by omega)
                have hs : seesF F40 [(0, g)] (updF (fun _ => []) 0 (blkB [(t : Int)])) [] (fun _ => []) 0 = blkB [(t : Int)] := by simp [seesF, lk, updF]
                refine (Tx.read X F40_calm.on (by omega) 0 (by omega) (by omega) (by rw [hs]; exact blkB_len _)).mono ?_
                rintro e w2 ⟨g2, rfl, lg2, h2, X2, t2⟩
                rw [hs] at h2
                exact ⟨g2, rfl, h2, _, H.step (St' := Pt2 A2 A1 t) stP hr t2 (fun k q => IN.g k q) ⟨fun q => by omega, fun _ => ⟨g, X2, IN.mono (fun k q => Or.inl q), Or.inl hg⟩⟩ (fun j r' Q hj h => h)⟩
              clear H
              go_wp2_with fail
              refine mRd.mono ?_
              rintro e' w2 ⟨g2, rfl, h2, P2, H2⟩
              have hlu : IntKind.u8.wrap (t : Int) = t := by rw [IntKind.wrap_u8]; omega
              clear mRd yt0'
              go_wp2_with fail
              obtain ⟨wA, hwA⟩ : ∃ wA, w2.alloc (.cells #[.int .u8 (t : Int)] 5) = wA := ⟨_, rfl⟩
              have bA : Below w2.heap.size w2 wA := by rw [← hwA]; exact (Below.refl _ w2).alloc (Nat.le_refl _) _
              have hLA : Lies wA (some ⟨w2.heap.size, 0, none⟩) 1 1 [(t : Int)] := by
                rw [← hwA]
                exact Lies.full (MapKept.heap_alloc w2 _).1 rfl
              rw [hwA]
              refine (block7 (some ⟨w2.heap.size, 0, none⟩) 1 1 [(t : Int)] wA (by omega) hLA).mono ?_
              rintro e' wb ⟨gb, cb, rfl, ob, bb⟩
              have b2b : Below w2.heap.size w2 wb := bA.trans (bb.mono bA.size)
              have h2b := (b2b.block g2 (heap_lt h2)).trans h2
              clear hwA hLA
              go_wp2_with fail
              refine (same7 (some ⟨g2, 0, none⟩) (some ⟨gb, 0, none⟩) 512 cb (blkB [(t : Int)]) wb (Lies.full h2b (blkB_len _)) (Lies.owned ob)).mono ?_
              rintro e' w5 ⟨rfl, b5⟩
              have H5 := H2.turns stP (b2b.trans (b5.mono b2b.size))
              have yt5 := yt w5 P2 H5
              by_cases hmod : t % 3 = 0
              · have hmi : (t : Int).tmod 3 = 0 := by rw [Int.tmod_eq_emod_of_nonneg (by omega)]; omega
                have HX : Hid (FamE w w5 20 (.slice aj 20 cj) (.slice (some ⟨gt, 0, none⟩) 20 ct) (Pt2 A2 A1 (t + 1))) := ⟨rs, P2, H5.next (fun i r' Q hi h => ⟨fun q => by
                  by_cases e : i < t
                  · exact h.1 e
                  · obtain rfl : i = t := by omega
                    obtain ⟨g, X, IN, hg⟩ := h.2 e
                    exact ⟨1, 0, 29, _, 0, [], X.J, X.A, fun _ => ⟨rfl, rfl⟩, fun q => absurd hmod q, IN.j, IN.b⟩, fun q => h.2 (by omega)⟩)⟩
                clear H2 H5 h2 h2b ob
                go_wp2_with (go_at_call 15; refine (num7 _ _).mono ?_; rintro e' wn ⟨rfl, hwn⟩; subst wn)
                go_roundw
                case rel => exact ⟨t + 1, by omega, by go_num, HX.out⟩
                case measure => simp [intOf]; omega
              · have hmi : ¬ (t : Int).tmod 3 = 0 := by rw [Int.tmod_eq_emod_of_nonneg (by omega)]; omega
                have mC : Calls Tryz.prog 14 #[.pointer (some ⟨r.tb, 0, none⟩)] w5 fun e w' => e = .returned (.int .i64 0) ∧ FamE w w' 20 (.slice aj 20 cj) (.slice (some ⟨gt, 0, none⟩) 20 ct) (Pt2 A2 A1 (t + 1)) := by
                  obtain ⟨g, X, IN, hg⟩ := (H5.st t r hr).2 (by omega)
                  have hN := IN.n
                  refine (txCommit_ok X (by simp) (by simp) (fun p hp => by cases hp) (fun p hp => by simp at hp; rw [hp]; omega) (by simp) (by omega) (by omega) (by omega) (by omega) (F40_calm.lasts _) (by omega) (by omega) (by omega) (by omega)).mono ?_
                  rintro e w6 ⟨rfl, _, t6, G6, J6, hG6⟩
                  exact ⟨rfl, _, _, H5.step (St' := Pt2 A2 A1 (t + 1)) stP hr t6 (fun k q => by
                    rcases q with q | q | q | q
                    · exact IN.g k q
                    · rw [q]; exact IN.b
                    · rw [q]; exact IN.j
                    · rw [q]; exact IN.t) ⟨fun _ => ⟨_, _, _, _, _, _, J6.J, J6.A, fun q => absurd q hmod, fun _ => ⟨rfl, rfl⟩, Or.inl IN.j, Or.inl IN.b⟩, fun q => by omega⟩ (fun j r' Q hj h => ⟨fun q => h.1 (by omega), fun q => h.2 (by omega)⟩)⟩
                clear H2 H5 h2 h2b ob
                go_wp2_with (go_at_call 15; refine (num7 _ _).mono ?_; rintro e' wn ⟨rfl, hwn⟩; subst wn)
                refine mC.mono ?_
                rintro e' w6 ⟨rfl, H6⟩
                have HX : Hid (FamE w w6 20 (.slice aj 20 cj) (.slice (some ⟨gt, 0, none⟩) 20 ct) (Pt2 A2 A1 (t + 1))) := H6
                clear mC H6
                go_wp2_with (go_at_call 15; refine (num7 _ _).mono ?_; rintro e' wn ⟨rfl, hwn⟩; subst wn)
                go_roundw
                case rel => exact ⟨t + 1, by omega, by go_num, HX.out⟩
                case measure => simp [intOf]; omega
            · have hti : ¬ (t : Int) < 20 := by omega
              obtain rfl : t = 20 := by omega
              have HI : Hid (FamE w wr 20 (.slice aj 20 cj) (.slice at' 20 ct) A2) := ⟨rs, P, H.next (fun i r Q hi h => h.1 hi)⟩
              clear H
              go_wp2_with fail
              go_loopw [16] (fun i wr => ∃ t : Nat, t ≤ 20 ∧ i = .int .i64 t ∧ FamE w wr 20 (.slice aj 20 cj) (.slice at' 20 ct) A2) (fun i _ => 20 - (intOf i).toNat)
              case atStart => exact ⟨0, by omega, rfl, HI.out⟩
              case round =>
                clear HI
                obtain ⟨t, ht, rfl, rs, P, H⟩ := hrel
                by_cases hlt : t < 20
                · have hti : (t : Int) < 20 := by omega
                  obtain ⟨r, hr⟩ : ∃ r, rs[t]? = some r := ⟨_, List.getElem?_eq_getElem (by rw [H.len]; exact hlt)⟩
                  obtain ⟨gj, rfl⟩ : ∃ g, aj = some ⟨g, 0, none⟩ := by
                    rcases H.rj.2 with ⟨_, h0⟩ | ⟨g, c, cur, hv, _⟩
                    · omega
                    · cases hv; exact ⟨g, rfl⟩
                  have yj : wr.cell? ⟨gj, t, none⟩ = some (.pointer (some ⟨r.jb, 0, none⟩)) := by
                    rw [H.rj.cellAt t (by omega), List.getElem?_map, hr]; rfl
                  obtain ⟨seq, place, free, op, nd, a, J, M, h0, h1, _, _⟩ := H.st t r hr
                  have mS := state_ok J M
                  have HX : Hid (∀ d, FamE w (wr.drewN d) 20 (.slice (some ⟨gj, 0, none⟩) 20 cj) (.slice at' 20 ct) A2) := fun d => ⟨rs, P, H.turns stay2 ⟨rfl, rfl, rfl, Nat.le_refl _, fun _ _ => rfl⟩⟩
                  clear H J M
                  by_cases hmod : t % 3 = 0
                  · have hmi : (t : Int).tmod 3 = 0 := by rw [Int.tmod_eq_emod_of_nonneg (by omega)]; omega
                    obtain ⟨rfl, hal⟩ := h0 hmod
                    rw [hal] at mS
                    go_wp2_with fail
                    refine mS.mono ?_
                    rintro e' w2 ⟨rfl, d2, rfl⟩
                    go_wp2_with fail
                    go_roundw
                    case rel => exact ⟨t + 1, by omega, by go_num, HX.out _⟩
                    case measure => simp [intOf]; omega
                  · have hmi : ¬ (t : Int).tmod 3 = 0 := by rw [Int.tmod_eq_emod_of_nonneg (by omega)]; omega
                    obtain ⟨rfl, hal⟩ := h1 hmod
                    rw [hal] at mS
                    go_wp2_with fail
                    refine mS.mono ?_
                    rintro e' w2 ⟨rfl, d2, rfl⟩
                    go_wp2_with fail
                    go_roundw
                    case rel => exact ⟨t + 1, by omega, by go_num, HX.out _⟩
                    case measure => simp [intOf]; omega
                · have hti : ¬ (t : Int) < 20 := by omega
                  have bw := H.bw
                  clear H
                  go_wp2_with fail
                  go_ret
                  exact ⟨rfl, bw⟩
end Go.Proofs.YtnmdnglbpkpfdaaGreatDoor

/- JournalOwn. -/
namespace Go.Proofs.YtnmdnglbpkpfdaaGreatDoor
open Go.RowKit Go.Maps
set_option maxRecDepth 100000
theorem own_any (er : Nat → Addr) (w : World) (hE : Errs w er) (ao : Option Addr) (np pc : Nat) (ps : List Pt) (hnp : np ≤ 400000) (hP : PtLies w ao np ps) :
    Calls Tryz.prog 8 #[.slice ao np pc] w fun e w' => e = .returned (.bool true) ∧ Below w.heap.size w w' :=
  own_part er w hE (fun w' h => many_any er w' h) ao np pc ps hnp hP
end Go.Proofs.YtnmdnglbpkpfdaaGreatDoor

/- What the listed variables give the walks: the five errors of package bits, each a pointer of its own. -/
namespace Go.Proofs.YtnmdnglbpkpfdaaGreatDoor
open Go.ChangeShapes Go.WideShapes Go.ChangeAt Go.RowKit
set_option maxRecDepth 100000
abbrev laidA {H : Type} : List (String × DataW H) := [("errors.errorType", Rows.laid_errors_errorType), ("annex/bits.errShort", Rows.laid_annex_bits_errShort), ("annex/bits.errWide", Rows.laid_annex_bits_errWide), ("annex/bits.errFlag", Rows.laid_annex_bits_errFlag), ("annex/bits.errLong", Rows.laid_annex_bits_errLong), ("annex/bits.errPad", Rows.laid_annex_bits_errPad)]
abbrev laidB {H : Type} : List (String × DataW H) := [("annex/bits.errShort", Rows.laid_annex_bits_errShort), ("annex/bits.errWide", Rows.laid_annex_bits_errWide), ("annex/bits.errFlag", Rows.laid_annex_bits_errFlag), ("annex/bits.errLong", Rows.laid_annex_bits_errLong), ("annex/bits.errPad", Rows.laid_annex_bits_errPad)]
theorem laid_metB {W : World} (h : laidMetH Tryz.prog laidA W) : laidMet Tryz.prog laidB W := h.1

theorem star : "*" ++ "errors.errorString" = "*errors.errorString" := by decide
theorem row96 (u : TypeId) (h : Tryz.prog.typeName? 3 u = some "*errors.errorString") : u = 256 :=
  typeName_ptr_named (nm := "errors.errorString") (by rw [star]; kernel_rfl) (by kernel_rfl) (by decide) u (by rw [star]; exact h)
theorem cells122 : Tryz.prog.cellsOf 276 = 1 := by kernel_rfl
theorem cells9 : Tryz.prog.cellsOf 9 = 1 := by kernel_rfl
theorem gN0 : Tryz.prog.globalNamed "annex/bits.errShort" = some 2 := by kernel_rfl
theorem gT0 : (Tryz.prog.globals[2]?).map (·.type) = some 145 := by kernel_rfl
theorem gN1 : Tryz.prog.globalNamed "annex/bits.errWide" = some 1 := by kernel_rfl
theorem gT1 : (Tryz.prog.globals[1]?).map (·.type) = some 145 := by kernel_rfl
theorem gN2 : Tryz.prog.globalNamed "annex/bits.errFlag" = some 3 := by kernel_rfl
theorem gT2 : (Tryz.prog.globals[3]?).map (·.type) = some 145 := by kernel_rfl
theorem gN3 : Tryz.prog.globalNamed "annex/bits.errLong" = some 4 := by kernel_rfl
theorem gT3 : (Tryz.prog.globals[4]?).map (·.type) = some 145 := by kernel_rfl
theorem gN4 : Tryz.prog.globalNamed "annex/bits.errPad" = some 5 := by kernel_rfl
theorem gT4 : (Tryz.prog.globals[5]?).map (·.type) = some 145 := by kernel_rfl

/-- The five errors' addresses, by the variables' numbers. -/
def erOf (a0 a1 a2 a3 a4 : Addr) : Nat → Addr
  | 4 => a0 | 1 => a1 | 0 => a2 | 2 => a3 | _ => a4

theorem errs_of_laid {W : World} (h : laidMetH Tryz.prog laidA W) : ∃ er, Errs W er := by
  have h := laid_metB h
  obtain ⟨ps, ⟨g0, t0, cs0, f0, p0, q0, hg0, ht0, hv0, hd0, ⟨g1, t1, cs1, f1, p1, q1, hg1, ht1, hv1, hd1, ⟨g2, t2, cs2, f2, p2, q2, hg2, ht2, hv2, hd2, ⟨g3, t3, cs3, f3, p3, q3, hg3, ht3, hv3, hd3, ⟨g4, t4, cs4, f4, p4, q4, hg4, ht4, hv4, hd4, _, e4⟩, e3⟩, e2⟩, e1⟩, e0⟩, hnd, hrows⟩ := h
  obtain rfl := Option.some.inj (gN0.symm.trans hg0)
  obtain rfl := Option.some.inj (gT0.symm.trans ht0)
  obtain rfl := Option.some.inj (gN1.symm.trans hg1)
  obtain rfl := Option.some.inj (gT1.symm.trans ht1)
  obtain rfl := Option.some.inj (gN2.symm.trans hg2)
  obtain rfl := Option.some.inj (gT2.symm.trans ht2)
  obtain rfl := Option.some.inj (gN3.symm.trans hg3)
  obtain rfl := Option.some.inj (gT3.symm.trans ht3)
  obtain rfl := Option.some.inj (gN4.symm.trans hg4)
  obtain rfl := Option.some.inj (gT4.symm.trans ht4)
  subst e4; subst e3; subst e2; subst e1; subst e0
  obtain ⟨l0⟩ := cs0
  obtain ⟨l1⟩ := cs1
  obtain ⟨l2⟩ := cs2
  obtain ⟨l3⟩ := cs3
  obtain ⟨l4⟩ := cs4
  have ok0 : ∀ u v, l0 = [.iface u v] → Value.okWide Tryz.prog W .any 0 u v := fun u v e => by
    subst e
    exact (hrows 2 0 (by simp [MemPlace.row])).2 u v (by simpa using World.var?_cell hg0 hv0 0)
  have ok1 : ∀ u v, l1 = [.iface u v] → Value.okWide Tryz.prog W .any 0 u v := fun u v e => by
    subst e
    exact (hrows 1 0 (by simp [MemPlace.row])).2 u v (by simpa using World.var?_cell hg1 hv1 0)
  have ok2 : ∀ u v, l2 = [.iface u v] → Value.okWide Tryz.prog W .any 0 u v := fun u v e => by
    subst e
    exact (hrows 3 0 (by simp [MemPlace.row])).2 u v (by simpa using World.var?_cell hg2 hv2 0)
  have ok3 : ∀ u v, l3 = [.iface u v] → Value.okWide Tryz.prog W .any 0 u v := fun u v e => by
    subst e
    exact (hrows 4 0 (by simp [MemPlace.row])).2 u v (by simpa using World.var?_cell hg3 hv3 0)
  have ok4 : ∀ u v, l4 = [.iface u v] → Value.okWide Tryz.prog W .any 0 u v := fun u v e => by
    subst e
    exact (hrows 5 0 (by simp [MemPlace.row])).2 u v (by simpa using World.var?_cell hg4 hv4 0)
  obtain ⟨a0, s0, rfl, hc0, _, _, rfl⟩ := errorString_of_trod Tryz.underlying145 row96 Tryz.underlying256 Tryz.underlying276 rfl rfl Tryz.underlying9 cells122 cells9 hd0 ok0
  obtain ⟨a1, s1, rfl, hc1, _, _, rfl⟩ := errorString_of_trod Tryz.underlying145 row96 Tryz.underlying256 Tryz.underlying276 rfl rfl Tryz.underlying9 cells122 cells9 hd1 ok1
  obtain ⟨a2, s2, rfl, hc2, _, _, rfl⟩ := errorString_of_trod Tryz.underlying145 row96 Tryz.underlying256 Tryz.underlying276 rfl rfl Tryz.underlying9 cells122 cells9 hd2 ok2
  obtain ⟨a3, s3, rfl, hc3, _, _, rfl⟩ := errorString_of_trod Tryz.underlying145 row96 Tryz.underlying256 Tryz.underlying276 rfl rfl Tryz.underlying9 cells122 cells9 hd3 ok3
  obtain ⟨a4, s4, rfl, hc4, _, _, rfl⟩ := errorString_of_trod Tryz.underlying145 row96 Tryz.underlying256 Tryz.underlying276 rfl rfl Tryz.underlying9 cells122 cells9 hd4 ok4
  obtain ⟨c0, u0, hb0⟩ := (hrows a0.block a0.off (by simp [MemPlace.row])).1
  obtain ⟨c1, u1, hb1⟩ := (hrows a1.block a1.off (by simp [MemPlace.row])).1
  obtain ⟨c2, u2, hb2⟩ := (hrows a2.block a2.off (by simp [MemPlace.row])).1
  obtain ⟨c3, u3, hb3⟩ := (hrows a3.block a3.off (by simp [MemPlace.row])).1
  obtain ⟨c4, u4, hb4⟩ := (hrows a4.block a4.off (by simp [MemPlace.row])).1
  have w0 := by simpa using World.var?_cell hg0 hv0 0
  have w1 := by simpa using World.var?_cell hg1 hv1 0
  have w2 := by simpa using World.var?_cell hg2 hv2 0
  have w3 := by simpa using World.var?_cell hg3 hv3 0
  have w4 := by simpa using World.var?_cell hg4 hv4 0
  have n01 : a0 ≠ a1 := by rintro rfl; simp [MemPlace.row] at hnd
  have n02 : a0 ≠ a2 := by rintro rfl; simp [MemPlace.row] at hnd
  have n03 : a0 ≠ a3 := by rintro rfl; simp [MemPlace.row] at hnd
  have n04 : a0 ≠ a4 := by rintro rfl; simp [MemPlace.row] at hnd
  have n12 : a1 ≠ a2 := by rintro rfl; simp [MemPlace.row] at hnd
  have n13 : a1 ≠ a3 := by rintro rfl; simp [MemPlace.row] at hnd
  have n14 : a1 ≠ a4 := by rintro rfl; simp [MemPlace.row] at hnd
  have n23 : a2 ≠ a3 := by rintro rfl; simp [MemPlace.row] at hnd
  have n24 : a2 ≠ a4 := by rintro rfl; simp [MemPlace.row] at hnd
  have n34 : a3 ≠ a4 := by rintro rfl; simp [MemPlace.row] at hnd
  refine ⟨erOf a0 a1 a2 a3 a4, ?_, ?_, ?_⟩
  · intro i hi
    match i, hi with
    | 0, _ => exact w2
    | 1, _ => exact w1
    | 2, _ => exact w3
    | 3, _ => exact w4
    | 4, _ => exact w0
  · intro i hi
    match i, hi with
    | 0, _ => exact ⟨_, _, hb2⟩
    | 1, _ => exact ⟨_, _, hb1⟩
    | 2, _ => exact ⟨_, _, hb3⟩
    | 3, _ => exact ⟨_, _, hb4⟩
    | 4, _ => exact ⟨_, _, hb0⟩
  · intro i j hi hj hne
    match i, hi, j, hj with
    | 0, _, 0, _ => exact absurd rfl hne
    | 0, _, 1, _ => exact n12.symm
    | 0, _, 2, _ => exact n23
    | 0, _, 3, _ => exact n24
    | 0, _, 4, _ => exact n02.symm
    | 1, _, 0, _ => exact n12
    | 1, _, 1, _ => exact absurd rfl hne
    | 1, _, 2, _ => exact n13
    | 1, _, 3, _ => exact n14
    | 1, _, 4, _ => exact n01.symm
    | 2, _, 0, _ => exact n23.symm
    | 2, _, 1, _ => exact n13.symm
    | 2, _, 2, _ => exact absurd rfl hne
    | 2, _, 3, _ => exact n34
    | 2, _, 4, _ => exact n03.symm
    | 3, _, 0, _ => exact n24.symm
    | 3, _, 1, _ => exact n14.symm
    | 3, _, 2, _ => exact n34.symm
    | 3, _, 3, _ => exact absurd rfl hne
    | 3, _, 4, _ => exact n04.symm
    | 4, _, 0, _ => exact n02
    | 4, _, 1, _ => exact n01
    | 4, _, 2, _ => exact n03
    | 4, _, 3, _ => exact n04
    | 4, _, 4, _ => exact absurd rfl hne
end Go.Proofs.YtnmdnglbpkpfdaaGreatDoor
