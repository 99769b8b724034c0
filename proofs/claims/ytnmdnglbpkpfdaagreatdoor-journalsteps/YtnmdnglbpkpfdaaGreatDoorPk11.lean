/- Back by its contract. -/
import Derived.Test.YtnmdnglbpkpfdaaGreatDoorPk10
import Derived.Test.YtnmdnglbpkpfdaaGreatDoorPk01
import Derived.Deep.DeepAppendWide
import Derived.Test.YtnmdnglbpkpfdaaGreatDoorPk07
namespace Go.Proofs.YtnmdnglbpkpfdaaGreatDoor
open Go.RowKit Go.Maps
set_option maxRecDepth 100000

set_option maxHeartbeats 1000000 in
theorem save1_ok {w : World} {tb jb wm : Nat} {sv : Value} {last : Int} {s : SvI} (hT : Tb w tb jb wm sv last) (p : Sp w tb s) :
    Calls Tryz.prog 65 #[.pointer (some ⟨s.hb, 0, none⟩), .pointer (some ⟨s.q, 0, none⟩)] w fun e w' => e = .returned (.tuple #[]) ∧ ∃ wm', w.heap.size ≤ wm' ∧ Tb w' tb jb wm' sv last ∧ Mp w' wm' s.hn s.m ∧ Turns (fun i => i = tb) w w' := by
  have x0 : w.cell? ⟨s.hb, 0, none⟩ = some (.map (some s.hm)) := by simp [World.cell?, p.h]
  have x1 : w.cell? ⟨s.q, 0, none⟩ = some (.pointer (some ⟨tb, 0, none⟩)) := by simp [World.cell?, p.q]
  obtain ⟨c0, c1, c2, c3, fz⟩ := hT.cells
  have f1 := fz 1
  go_enter Tryz.func65, Tryz.ntmps65
  have Md : Mp w.drew s.hm s.hn s.m := p.M.turns (Turns.drewN (fun _ => False) w 1) id
  have k0 : w.drew.cell? ⟨s.hb, 0, none⟩ = some (.map (some s.hm)) ∧ w.drew.cell? ⟨s.q, 0, none⟩ = some (.pointer (some ⟨tb, 0, none⟩)) := ⟨x0, x1⟩
  have nqt : s.q ≠ tb := by
    intro e
    have h1 := p.q
    have h2 := hT
    unfold Tb at h2
    rw [e, h2] at h1
    simp at h1
  have nht : s.hb ≠ tb := by
    intro e
    have h1 := p.h
    have h2 := hT
    unfold Tb at h2
    rw [e, h2] at h1
    simp at h1
  go_wp2_with fail
  go_region_held3 (fun w' => w'.cell? ⟨s.hb, 0, none⟩ = some (.map (some s.hm)) ∧ w'.cell? ⟨s.q, 0, none⟩ = some (.pointer (some ⟨tb, 0, none⟩)))
    (first | exact k0 | exact k1 | exact k2 _)
    (first
      | (go_at_call 64; refine (clone_any Md).mono ?_; rintro e w1 ⟨rfl, M1, b1⟩; have b1 := Below.fromDrew b1; have h1 := (b1.block _ (heap_lt p.h)).trans p.h; have q1 := (b1.block _ (heap_lt p.q)).trans p.q; have T1 : Tb w1 tb jb wm sv last := (b1.block tb (heap_lt hT)).trans hT; have d1 := T1.cells.c1; have df := T1.cells.fz 1; have k1 : w1.cell? ⟨s.hb, 0, none⟩ = some (.map (some s.hm)) ∧ w1.cell? ⟨s.q, 0, none⟩ = some (.pointer (some ⟨tb, 0, none⟩)) := ⟨by simp [World.cell?, h1], by simp [World.cell?, q1]⟩; have k2 : ∀ v, (w1.setCell ⟨tb, 1, none⟩ v).cell? ⟨s.hb, 0, none⟩ = some (.map (some s.hm)) ∧ (w1.setCell ⟨tb, 1, none⟩ v).cell? ⟨s.q, 0, none⟩ = some (.pointer (some ⟨tb, 0, none⟩)) := (fun v => ⟨(World.cell?_of_block ((Turns.cell w1 tb 1 v).block _ (heap_lt h1) nht)).trans k1.1, (World.cell?_of_block ((Turns.cell w1 tb 1 v).block _ (heap_lt q1) nqt)).trans k1.2⟩)))
  go_wp2_with fail
  first | go_end0 | refine bodyPost_ret (results_none rfl _ _ _) rfl ?_
  have M1' : Mp w1 w.heap.size s.hn s.m := M1
  refine ⟨rfl, w.heap.size, Nat.le_refl _, heap_setCell_same _ tb 1 _ _ _ T1, M1'.turns (Turns.cell w1 tb 1 _) (fun e => by have := heap_lt hT; omega), (Below.turns b1 (fun i => i = tb)).trans (Turns.cell w1 tb 1 _) (fun _ _ h => h)⟩
set_option maxHeartbeats 2000000 in
theorem back_no {w : World} {d : Nat} {S : DevS} {k N : Nat} {G : Nat → Prop} {jb st sz : Nat} {seq : Int} {place : Nat} {free : Int} {bm nd : Nat} {a : List (Nat × Nat)} {fa : Nat → List Int} {tb wm ns : Nat} {m : List (Nat × Nat)} {f : Nat → List Int} {sv : Value} {last : Int} (h : Tx w d S k N G jb st sz seq place free bm nd a fa tb wm ns m f sv last) (ho : S.off = false) {l : List SvI} {la : Nat} (hv : Svs w G tb wm sv l la) (hll : l.length ≤ 1000000) (t : Int) (hn : ∀ s ∈ l, (s.mark : Int) ≠ t) :
    Calls Tryz.prog 32 #[.pointer (some ⟨tb, 0, none⟩), .int .i64 t] w fun e w' => e = .returned (.int .i64 75) ∧ Same0 w w' d S k N G := by
  have t0 := h.T.cells.c0
  go_enter Tryz.func32, Tryz.ntmps32
  go_wp2_with fail
  refine (power_ok h.D h.J ho).mono ?_
  rintro e w1 ⟨rfl, q1⟩
  have T1 := h.same q1
  have v1 := hv.same q1.2
  have t2 := T1.T.cells.c2
  clear t0
  have hmf : ∀ (fn : Fn) (first cap : Array Value) (w : World), (Instr.makeFunc fn first cap).run Tryz.prog w = .ok (.func fn first cap) w := fun _ _ _ _ => rfl
  go_wp2_with fail
  refine (bsearch_any l sv t w1 v1.row hll v1.ris).mono ?_
  rintro e w2 ⟨i, rfl, B2, b2⟩
  have hia : isAt l i t = false := by
    unfold isAt
    cases e : l[i]? with
    | none => rfl
    | some s => simpa using hn s (List.mem_of_getElem? e)
  rw [hia]
  clear t2
  go_wp2_with fail
  go_ret
  exact ⟨rfl, q1.1.below b2, q1.2.trans (Below.turns b2 (fun _ => False)) (fun _ _ => False.elim)⟩
/-- What Back leaves. -/
structure BackR (w w' : World) (d : Nat) (S : DevS) (k N : Nat) (G : Nat → Prop) (jb st sz : Nat) (seq : Int) (place : Nat) (free : Int) (bm nd : Nat) (a : List (Nat × Nat)) (fa : Nat → List Int) (tb : Nat) (s : SvI) (last : Int) (sv : Value) (l : List SvI) (la i : Nat) : Prop where
  ex : ∃ wm' sv', Tx w' d S k N G jb st sz seq place free bm nd a fa tb wm' s.hn s.m s.f sv' last ∧ Svs w' G tb wm' sv' (l.take (i + 1)) la ∧ w.heap.size ≤ wm' ∧ sv'.ownBlock = sv.ownBlock
  tr : Turns (fun i => G i ∨ i = tb ∨ sv.ownBlock = some i) w w'
theorem bs_at {l : List SvI} {t : Int} {i j : Nat} (h : Bs l t i) (hr : l.Pairwise (fun a b => a.mark < b.mark)) (hj : j < l.length) (e : (l[j].mark : Int) = t) : i = j := by
  rcases Nat.lt_trichotomy i j with q | q | q
  · have hi : i < l.length := by omega
    have h1 := h.hi l[i] (by rw [List.drop_eq_getElem_cons hi]; exact List.mem_cons_self)
    have h2 := List.pairwise_iff_getElem.1 hr i j hi hj q
    omega
  · exact q
  · have h1 := h.lo l[j] (List.mem_take_iff_getElem.2 ⟨j, by omega, rfl⟩)
    omega
set_option maxHeartbeats 4000000 in
theorem back_ok {w : World} {d : Nat} {S : DevS} {k N : Nat} {G : Nat → Prop} {jb st sz : Nat} {seq : Int} {place : Nat} {free : Int} {bm nd : Nat} {a : List (Nat × Nat)} {fa : Nat → List Int} {tb wm ns : Nat} {m : List (Nat × Nat)} {f : Nat → List Int} {sv : Value} {last : Int} (h : Tx w d S k N G jb st sz seq place free bm nd a fa tb wm ns m f sv last) (ho : S.off = false) {l : List SvI} {la : Nat} (hv : Svs w G tb wm sv l la) (hll : l.length ≤ 1000000) (j : Nat) (hj : j < l.length) :
    Calls Tryz.prog 32 #[.pointer (some ⟨tb, 0, none⟩), .int .i64 (l[j].mark : Nat)] w fun e w' => e = .returned (.int .i64 0) ∧ BackR w w' d S k N G jb st sz seq place free bm nd a fa tb l[j] last sv l la j := by
  have t0 := h.T.cells.c0
  go_enter Tryz.func32, Tryz.ntmps32
  go_wp2_with fail
  refine (power_ok h.D h.J ho).mono ?_
  rintro e w1 ⟨rfl, q1⟩
  have T1 := h.same q1
  have v1 := hv.same q1.2
  have t2 := T1.T.cells.c2
  clear t0
  have hmf : ∀ (fn : Fn) (first cap : Array Value) (w : World), (Instr.makeFunc fn first cap).run Tryz.prog w = .ok (.func fn first cap) w := fun _ _ _ _ => rfl
  go_wp2_with fail
  refine (bsearch_any l sv (l[j].mark : Nat) w1 v1.row hll v1.ris).mono ?_
  rintro e w2 ⟨i, rfl, B2, b2⟩
  obtain rfl := bs_at B2 v1.ris hj rfl
  have hia : isAt l i (l[i].mark : Nat) = true := by
    unfold isAt
    rw [List.getElem?_eq_getElem hj]
    simp
  rw [hia]
  have T2 := T1.below b2
  have v2 := v1.turns (Below.turns b2 (fun _ => False)) (fun _ _ => id) (fun _ _ => ⟨id, id, id, fun _ _ => id⟩)
  have hmem : l[i] ∈ l := List.getElem_mem hj
  have P2 := v2.sp l[i] hmem
  have r2 := v2.row
  obtain ⟨s, hs⟩ : ∃ s, l[i] = s := ⟨_, rfl⟩
  obtain ⟨g, cp, hsv, x0, x1⟩ := sv_get v2.row hj
  rw [hs] at x0 x1 P2
  have HS : Hid (l[i] = s) := hs
  clear hs hia
  obtain ⟨n, hn⟩ : ∃ n, l.length = n := ⟨_, rfl⟩
  have HN : Hid (l.length = n) := hn
  rw [hn] at hsv hll
  have hin : i < n := by omega
  clear hn
  subst hsv
  clear t2
  have t2 := T2.T.cells.c2
  have hini : (i : Int) < n := by omega
  have hni : (n : Int) ≤ 1000000 := by omega
  go_wp2_with fail
  refine (save1_ok T2.T P2).mono ?_
  rintro e w3 ⟨rfl, wm', lwm, T3, M3, u3⟩
  have r3 : w3.ownsRow 0 127 2 (.slice (some ⟨g, 0, none⟩) n cp) l.length (svC l) := own_turns r2 u3 (fun b hb e => own_typeJ r2 T2.T (by decide) (by rw [hb, e]))
  have r3d : w3.drew.ownsRow 0 127 2 (.slice (some ⟨g, 0, none⟩) n cp) l.length (svC l) := r3
  have y2 := T3.cells.c2
  have yf := T3.cells.fz 2
  have hdel := delete_any l (.slice (some ⟨g, 0, none⟩) n cp) (i + 1) w3.drew r3d (by rw [HN.out]; exact hll) (by rw [HN.out]; omega) (by rw [HN.out]; omega)
  have hi1 : ((i + 1 : Nat) : Int) = (i : Int) + 1 := by omega
  rw [HN.out, hi1] at hdel
  clear hi1
  clear t2 x0 x1
  go_wp2_with fail
  have HE : Hid (∀ w4 aN cN, w4.ownsRow 0 127 2 (.slice aN (i + 1) cN) (i + 1) (svC (l.take (i + 1))) → (Value.slice aN (i + 1) cN).ownBlock = (Value.slice (some ⟨g, 0, none⟩) n cp).ownBlock → Turns (fun x => (Value.slice (some ⟨g, 0, none⟩) n cp).ownBlock = some x) w3.drew w4 → BackR w (w4.setCell ⟨tb, 2, none⟩ (.slice aN (i + 1) cN)) d S k N G jb st sz seq place free bm nd a fa tb l[i] last (.slice (some ⟨g, 0, none⟩) n cp) l la i) := by
    intro w4 aN cN r4 o4 u4
    have s1 := q1.2.size
    have s2 := b2.size
    have hGl := h.D.lt
    have gH : ∀ x, w2.heap.size ≤ x → ¬ G x := fun x hx r => by have := hGl x r; omega
    have T4 : Tb w4 tb jb wm' (.slice (some ⟨g, 0, none⟩) n cp) last := (u4.block tb (heap_lt T3) (fun e => own_typeJ r3 T3 (by decide) e)).trans T3
    have T6 : Tb (w4.setCell ⟨tb, 2, none⟩ (.slice aN (i + 1) cN)) tb jb wm' (.slice aN (i + 1) cN) last := heap_setCell_same _ tb 2 _ _ _ T4
    have u6 := Turns.cell w4 tb 2 (.slice aN (i + 1) cN)
    have v36 : Turns (fun x => x = tb ∨ (Value.slice (some ⟨g, 0, none⟩) n cp).ownBlock = some x) w3 (w4.setCell ⟨tb, 2, none⟩ (.slice aN (i + 1) cN)) := (((Turns.drewN (fun _ => False) w3 1).mono (fun _ _ => False.elim)).trans u4 (fun _ _ e => Or.inr e)).trans u6 (fun _ _ e => Or.inl e)
    have v26 : Turns (fun x => x = tb ∨ (Value.slice (some ⟨g, 0, none⟩) n cp).ownBlock = some x) w2 (w4.setCell ⟨tb, 2, none⟩ (.slice aN (i + 1) cN)) := (u3.mono (fun _ _ e => Or.inl e)).trans v36 (fun _ _ e => e)
    have nY : ∀ (x : Nat) (cs : Array Value) (t : Nat), w2.heap[x]? = some (.cells cs t) → t ≠ 104 → t ≠ 127 → ¬ (x = tb ∨ (Value.slice (some ⟨g, 0, none⟩) n cp).ownBlock = some x) := fun x cs t hx h1 h2 e => by
      rcases e with rfl | e
      · have := T2.T; unfold Tb at this; rw [hx] at this; simp at this; exact h1 this.2
      · exact own_typeJ r2 hx h2 e
    have nM : ∀ (x n' : Nat) (y : List (Nat × Nat)), Mp w2 x n' y → ¬ (x = tb ∨ (Value.slice (some ⟨g, 0, none⟩) n cp).ownBlock = some x) := fun x n' y hx e => by
      rcases e with rfl | e
      · exact mp_cells hx T2.T rfl
      · exact own_mapJ r2 hx e
    have hsg : ¬ G g := hv.gr g rfl
    have lg : g < w2.heap.size := (r2.lt g rfl).2
    have lt := heap_lt T2.T
    have lj := heap_lt T2.J
    have lb := T2.A.own.lt
    have ls := v2.gs l[i] hmem
    rw [HS.out] at ls ⊢
    have nw : ¬ (wm' = tb ∨ (Value.slice (some ⟨g, 0, none⟩) n cp).ownBlock = some wm') := fun e => by
      rcases e with e | e
      · omega
      · have e' : g = wm' := Option.some.inj e
        omega
    refine ⟨⟨wm', _, ⟨T2.D.turns v26 (fun x hx e => ?_), (v26.block jb lj (nY jb _ _ T2.J (by decide) (by decide))).trans T2.J, T6, T2.A.turns v26 (nM bm _ _ T2.A), T2.VA.turns v26 (fun p hp => nY p.2 _ _ (T2.VA p hp).1 (by decide) (by decide)), M3.turns v36 nw, P2.V.turns v26 (fun p hp => nY p.2 _ _ (P2.V p hp).1 (by decide) (by decide)), h.gj, h.gt, h.ga, gH wm' lwm, ls.2.2.2.2, h.gva, h.tj, by omega, h.ta, by omega, h.ja, by omega⟩, ⟨?_, ?_, ?_, ?_, ?_, ?_⟩, by omega, o4⟩, ?_⟩
    · rcases e with rfl | e
      · exact h.gt hx
      · cases e; exact hsg hx
    · have e : (l.take (i + 1)).length = i + 1 := by rw [List.length_take]; omega
      rw [e]
      exact own_turns r4 u6 (fun b hb e => by
        rw [o4] at hb
        cases hb
        have := own_typeJ r2 T2.T (by decide)
        exact this (by rw [← e]; rfl))
    · exact List.Pairwise.sublist (List.take_sublist _ _) v2.ris
    · exact fun x hx => v2.top x (List.mem_of_mem_take hx)
    · intro b hb
      rw [o4] at hb
      cases hb
      exact hsg
    · intro x hx
      have p := v2.sp x (List.mem_of_mem_take hx)
      exact p.turns v26 (nY _ _ _ p.h (by decide) (by decide)) (nY _ _ _ p.q (by decide) (by decide)) (nM _ _ _ p.M) (fun y hy => nY _ _ _ (p.V y hy).1 (by decide) (by decide))
    · intro x hx
      have hx' := List.mem_of_mem_take hx
      have p := v2.sp x hx'
      have lh := p.M.own.lt
      obtain ⟨g1, g2, g3, _, g5⟩ := v2.gs x hx'
      exact ⟨g1, g2, g3, by omega, g5⟩
    · exact (((q1.2.mono (fun _ _ r => Or.inl r)).trans (Below.turns b2 (fun _ => False)) (fun _ _ => False.elim)).trans v26 (fun _ _ r => Or.inr r))
  have y2d : w3.drew.cell? ⟨tb, 2, none⟩ = some (.slice (some ⟨g, 0, none⟩) n cp) := y2
  have hw2 : IntKind.i64.wrap ((i : Int) + 1) = (i : Int) + 1 := Go.IntWalk.i64_in _ ⟨by omega, by omega⟩
  refine wp_region_held_drew (S := fun _ => True) (by kernel_rfl) trivial (fun hHeld => ?_)
  clear hHeld
  refine wpAnyH_take (i := 0) (oi := ⟨some 41, .move (.tmp 0), 31, "tx.go:100", #[], none⟩) (v := (.pointer (some ⟨tb, 0, none⟩))) rfl (by kernel_rfl) (by kernel_rfl) (by kernel_rfl) (fun _ _ _ h => h) (Or.inl ⟨by rfl, fun _ _ => by rfl⟩) trivial ?_
  simp only [Act.put, List.setIfInBounds_toArray, List.set_cons_zero, List.set_cons_succ]
  refine wpAnyH_take (i := 1) (oi := ⟨some 42, .move (.tmp 0), 31, "tx.go:100", #[], none⟩) (v := (.pointer (some ⟨tb, 0, none⟩))) rfl (by kernel_rfl) (by kernel_rfl) (by kernel_rfl) (fun _ _ _ h => h) (Or.inl ⟨by rfl, fun _ _ => by rfl⟩) trivial ?_
  simp only [Act.put, List.setIfInBounds_toArray, List.set_cons_zero, List.set_cons_succ]
  refine wpAnyH_take (i := 2) (oi := ⟨some 43, .nilCheck (.tmp 42), 0, "tx.go:100", #[⟨1, .data⟩], none⟩) (v := (.pointer (some ⟨tb, 0, none⟩))) rfl (by kernel_rfl) (by kernel_rfl) (by kernel_rfl) (fun _ _ _ h => h) (Or.inl ⟨by rfl, fun _ _ => by rfl⟩) trivial ?_
  simp only [Act.put, List.setIfInBounds_toArray, List.set_cons_zero, List.set_cons_succ]
  refine wpAnyH_take (i := 3) (oi := ⟨some 44, .fieldAddr 104 (.tmp 43) 2, 0, "tx.go:100", #[⟨2, .data⟩], none⟩) (v := (.pointer (some ⟨tb, 2, none⟩))) rfl (by kernel_rfl) (by kernel_rfl) (by kernel_rfl) (fun _ _ _ h => h) (Or.inl ⟨by rfl, fun _ _ => by rfl⟩) trivial ?_
  simp only [Act.put, List.setIfInBounds_toArray, List.set_cons_zero, List.set_cons_succ]
  refine wpAnyH_take (i := 5) (oi := ⟨some 46, .move (.tmp 6), 3, "tx.go:100", #[], none⟩) (v := (.int .i64 (i : Int))) rfl (by kernel_rfl) (by kernel_rfl) (by kernel_rfl) (fun _ _ _ h => h) (Or.inl ⟨by rfl, fun _ _ => by rfl⟩) trivial ?_
  simp only [Act.put, List.setIfInBounds_toArray, List.set_cons_zero, List.set_cons_succ]
  refine wpAnyH_take (i := 6) (oi := ⟨some 47, .binOp .add 3 (.tmp 46) (.const (.int .i64 1)) 3, 3, "tx.go:100", #[⟨5, .data⟩], none⟩) (v := (.int .i64 ((i : Int) + 1))) rfl (by kernel_rfl) (by kernel_rfl) (by kernel_rfl) (fun _ _ _ h => h) (Or.inl ⟨by rfl, fun w' h' => by unfold execOp; go_simp⟩) trivial ?_
  simp only [Act.put, List.setIfInBounds_toArray, List.set_cons_zero, List.set_cons_succ]
  refine wpAnyH_take (i := 7) (oi := ⟨some 48, .move (.tmp 0), 31, "tx.go:100", #[], none⟩) (v := (.pointer (some ⟨tb, 0, none⟩))) rfl (by kernel_rfl) (by kernel_rfl) (by kernel_rfl) (fun _ _ _ h => h) (Or.inl ⟨by rfl, fun _ _ => by rfl⟩) trivial ?_
  simp only [Act.put, List.setIfInBounds_toArray, List.set_cons_zero, List.set_cons_succ]
  refine wpAnyH_take (i := 8) (oi := ⟨some 49, .nilCheck (.tmp 48), 0, "tx.go:100", #[⟨7, .data⟩], none⟩) (v := (.pointer (some ⟨tb, 0, none⟩))) rfl (by kernel_rfl) (by kernel_rfl) (by kernel_rfl) (fun _ _ _ h => h) (Or.inl ⟨by rfl, fun _ _ => by rfl⟩) trivial ?_
  simp only [Act.put, List.setIfInBounds_toArray, List.set_cons_zero, List.set_cons_succ]
  refine wpAnyH_take (i := 9) (oi := ⟨some 50, .fieldAddr 104 (.tmp 49) 2, 0, "tx.go:100", #[⟨8, .data⟩], none⟩) (v := (.pointer (some ⟨tb, 2, none⟩))) rfl (by kernel_rfl) (by kernel_rfl) (by kernel_rfl) (fun _ _ _ h => h) (Or.inl ⟨by rfl, fun _ _ => by rfl⟩) trivial ?_
  simp only [Act.put, List.setIfInBounds_toArray, List.set_cons_zero, List.set_cons_succ]
  refine wpAnyH_ready (rs := [4, 10]) (by kernel_rfl) (by simp) ?_
  refine AllReadyH.cons (o := ⟨some 45, .load 102 (.tmp 44), 102, "tx.go:100", #[⟨3, .data⟩], none⟩) rfl (fun KK hK => ?_) (AllReadyH.cons (o := ⟨some 51, .load 102 (.tmp 50), 102, "tx.go:100", #[⟨9, .data⟩], none⟩) rfl (fun KK hK => ?_) AllReadyH.nil)
  · go_simp
    refine hK.out _ _ trivial (fun hHeld => ?_)
    clear hK KK hHeld
    try simp only [Act.put, List.setIfInBounds_toArray, List.set_cons_zero, List.set_cons_succ]
    refine wpAnyH_ready (rs := [10]) (by kernel_rfl) (by simp) ?_
    refine AllReadyH.cons (o := ⟨some 51, .load 102 (.tmp 50), 102, "tx.go:100", #[⟨9, .data⟩], none⟩) rfl (fun KK hK => ?_) AllReadyH.nil
    go_simp
    refine hK.out _ _ trivial (fun hHeld => ?_)
    clear hK KK hHeld
    try simp only [Act.put, List.setIfInBounds_toArray, List.set_cons_zero, List.set_cons_succ]
    refine wpAnyH_take (i := 11) (oi := ⟨some 52, .call ⟨.builtin .len, #[.tmp 51], #[102]⟩, 3, "tx.go:100", #[⟨10, .data⟩], none⟩) (v := (.int .i64 (n : Int))) rfl (by kernel_rfl) (by kernel_rfl) (by kernel_rfl) (fun _ _ _ h => h) (Or.inl ⟨by rfl, fun w' h' => by unfold execOp; go_simp⟩) trivial ?_
    simp only [Act.put, List.setIfInBounds_toArray, List.set_cons_zero, List.set_cons_succ]
    refine wpAnyH_ready (rs := [12]) (by kernel_rfl) (by simp) ?_
    refine AllReadyH.cons (o := ⟨some 53, .call ⟨.value (.func 69), #[.tmp 45, .tmp 47, .tmp 52], #[102, 3, 3]⟩, 102, "tx.go:100", #[⟨4, .data⟩, ⟨6, .data⟩, ⟨11, .data⟩], none⟩) rfl (fun KK hK => ?_) AllReadyH.nil
    go_simp
    refine hdel.mono ?_
    rintro e w4 ⟨sv', rfl, r4, o4, u4⟩
    obtain ⟨aN, cN, hsv4⟩ := row_slice r4
    subst hsv4
    have T4 : Tb w4 tb jb wm' (.slice (some ⟨g, 0, none⟩) n cp) last := (u4.block tb (heap_lt T3) (fun e => own_typeJ r3 T3 (by decide) e)).trans T3
    have z2 := T4.cells.c2
    have zf := T4.cells.fz 2
    go_wp2_with fail
    refine hK.out _ _ trivial (fun hHeld => ?_)
    clear hK KK hHeld
    try simp only [Act.put, List.setIfInBounds_toArray, List.set_cons_zero, List.set_cons_succ]
    refine wpAnyH_ready (rs := [13]) (by kernel_rfl) (by simp) ?_
    refine AllReadyH.cons (o := ⟨some 54, .nilCheck (.tmp 41), 0, "tx.go:100", #[⟨0, .data⟩, ⟨0, .phase⟩, ⟨1, .phase⟩, ⟨2, .phase⟩, ⟨3, .phase⟩, ⟨4, .phase⟩, ⟨5, .phase⟩, ⟨6, .phase⟩, ⟨7, .phase⟩, ⟨8, .phase⟩, ⟨9, .phase⟩, ⟨10, .phase⟩, ⟨11, .phase⟩, ⟨12, .phase⟩], none⟩) rfl (fun KK hK => ?_) AllReadyH.nil
    go_simp
    refine hK.out _ _ trivial (fun hHeld => ?_)
    clear hK KK hHeld
    try simp only [Act.put, List.setIfInBounds_toArray, List.set_cons_zero, List.set_cons_succ]
    refine wpAnyH_ready (rs := [14]) (by kernel_rfl) (by simp) ?_
    refine AllReadyH.cons (o := ⟨some 55, .fieldAddr 104 (.tmp 54) 2, 0, "tx.go:100", #[⟨13, .data⟩, ⟨0, .phase⟩, ⟨1, .phase⟩, ⟨2, .phase⟩, ⟨3, .phase⟩, ⟨4, .phase⟩, ⟨5, .phase⟩, ⟨6, .phase⟩, ⟨7, .phase⟩, ⟨8, .phase⟩, ⟨9, .phase⟩, ⟨10, .phase⟩, ⟨11, .phase⟩, ⟨12, .phase⟩], none⟩) rfl (fun KK hK => ?_) AllReadyH.nil
    go_simp
    refine hK.out _ _ trivial (fun hHeld => ?_)
    clear hK KK hHeld
    try simp only [Act.put, List.setIfInBounds_toArray, List.set_cons_zero, List.set_cons_succ]
    refine wpAnyH_ready (rs := [15]) (by kernel_rfl) (by simp) ?_
    refine AllReadyH.cons (o := ⟨none, .store 102 (.tmp 55) (.tmp 53), 0, "tx.go:100", #[⟨14, .data⟩, ⟨12, .data⟩, ⟨12, .chain⟩, ⟨0, .phase⟩, ⟨1, .phase⟩, ⟨2, .phase⟩, ⟨3, .phase⟩, ⟨4, .phase⟩, ⟨5, .phase⟩, ⟨6, .phase⟩, ⟨7, .phase⟩, ⟨8, .phase⟩, ⟨9, .phase⟩, ⟨10, .phase⟩, ⟨11, .phase⟩, ⟨12, .phase⟩], none⟩) rfl (fun KK hK => ?_) AllReadyH.nil
    go_simp
    refine hK.out _ _ trivial (fun hHeld => ?_)
    clear hK KK hHeld
    try simp only [Act.put, List.setIfInBounds_toArray, List.set_cons_zero, List.set_cons_succ]
    refine wpAnyH_done (by kernel_rfl) ?_ _
    have R6 := HE.out w4 _ _ r4 o4 u4
    obtain ⟨W6, hW6⟩ : ∃ W6, w4.setCell ⟨tb, 2, none⟩ (.slice aN (i + 1) cN) = W6 := ⟨_, rfl⟩
    rw [hW6] at R6
    try rw [hW6]
    clear r4 o4 u4 T4 z2 zf
    go_wp2_with fail
    go_ret
    exact ⟨rfl, R6⟩
  · go_simp
    refine hK.out _ _ trivial (fun hHeld => ?_)
    clear hK KK hHeld
    try simp only [Act.put, List.setIfInBounds_toArray, List.set_cons_zero, List.set_cons_succ]
    refine wpAnyH_take (i := 11) (oi := ⟨some 52, .call ⟨.builtin .len, #[.tmp 51], #[102]⟩, 3, "tx.go:100", #[⟨10, .data⟩], none⟩) (v := (.int .i64 (n : Int))) rfl (by kernel_rfl) (by kernel_rfl) (by kernel_rfl) (fun _ _ _ h => h) (Or.inl ⟨by rfl, fun w' h' => by unfold execOp; go_simp⟩) trivial ?_
    simp only [Act.put, List.setIfInBounds_toArray, List.set_cons_zero, List.set_cons_succ]
    refine wpAnyH_ready (rs := [4]) (by kernel_rfl) (by simp) ?_
    refine AllReadyH.cons (o := ⟨some 45, .load 102 (.tmp 44), 102, "tx.go:100", #[⟨3, .data⟩], none⟩) rfl (fun KK hK => ?_) AllReadyH.nil
    go_simp
    refine hK.out _ _ trivial (fun hHeld => ?_)
    clear hK KK hHeld
    try simp only [Act.put, List.setIfInBounds_toArray, List.set_cons_zero, List.set_cons_succ]
    refine wpAnyH_ready (rs := [12]) (by kernel_rfl) (by simp) ?_
    refine AllReadyH.cons (o := ⟨some 53, .call ⟨.value (.func 69), #[.tmp 45, .tmp 47, .tmp 52], #[102, 3, 3]⟩, 102, "tx.go:100", #[⟨4, .data⟩, ⟨6, .data⟩, ⟨11, .data⟩], none⟩) rfl (fun KK hK => ?_) AllReadyH.nil
    go_simp
    refine hdel.mono ?_
    rintro e w4 ⟨sv', rfl, r4, o4, u4⟩
    obtain ⟨aN, cN, hsv4⟩ := row_slice r4
    subst hsv4
    have T4 : Tb w4 tb jb wm' (.slice (some ⟨g, 0, none⟩) n cp) last := (u4.block tb (heap_lt T3) (fun e => own_typeJ r3 T3 (by decide) e)).trans T3
    have z2 := T4.cells.c2
    have zf := T4.cells.fz 2
    go_wp2_with fail
    refine hK.out _ _ trivial (fun hHeld => ?_)
    clear hK KK hHeld
    try simp only [Act.put, List.setIfInBounds_toArray, List.set_cons_zero, List.set_cons_succ]
    refine wpAnyH_ready (rs := [13]) (by kernel_rfl) (by simp) ?_
    refine AllReadyH.cons (o := ⟨some 54, .nilCheck (.tmp 41), 0, "tx.go:100", #[⟨0, .data⟩, ⟨0, .phase⟩, ⟨1, .phase⟩, ⟨2, .phase⟩, ⟨3, .phase⟩, ⟨4, .phase⟩, ⟨5, .phase⟩, ⟨6, .phase⟩, ⟨7, .phase⟩, ⟨8, .phase⟩, ⟨9, .phase⟩, ⟨10, .phase⟩, ⟨11, .phase⟩, ⟨12, .phase⟩], none⟩) rfl (fun KK hK => ?_) AllReadyH.nil
    go_simp
    refine hK.out _ _ trivial (fun hHeld => ?_)
    clear hK KK hHeld
    try simp only [Act.put, List.setIfInBounds_toArray, List.set_cons_zero, List.set_cons_succ]
    refine wpAnyH_ready (rs := [14]) (by kernel_rfl) (by simp) ?_
    refine AllReadyH.cons (o := ⟨some 55, .fieldAddr 104 (.tmp 54) 2, 0, "tx.go:100", #[⟨13, .data⟩, ⟨0, .phase⟩, ⟨1, .phase⟩, ⟨2, .phase⟩, ⟨3, .phase⟩, ⟨4, .phase⟩, ⟨5, .phase⟩, ⟨6, .phase⟩, ⟨7, .phase⟩, ⟨8, .phase⟩, ⟨9, .phase⟩, ⟨10, .phase⟩, ⟨11, .phase⟩, ⟨12, .phase⟩], none⟩) rfl (fun KK hK => ?_) AllReadyH.nil
    go_simp
    refine hK.out _ _ trivial (fun hHeld => ?_)
    clear hK KK hHeld
    try simp only [Act.put, List.setIfInBounds_toArray, List.set_cons_zero, List.set_cons_succ]
    refine wpAnyH_ready (rs := [15]) (by kernel_rfl) (by simp) ?_
    refine AllReadyH.cons (o := ⟨none, .store 102 (.tmp 55) (.tmp 53), 0, "tx.go:100", #[⟨14, .data⟩, ⟨12, .data⟩, ⟨12, .chain⟩, ⟨0, .phase⟩, ⟨1, .phase⟩, ⟨2, .phase⟩, ⟨3, .phase⟩, ⟨4, .phase⟩, ⟨5, .phase⟩, ⟨6, .phase⟩, ⟨7, .phase⟩, ⟨8, .phase⟩, ⟨9, .phase⟩, ⟨10, .phase⟩, ⟨11, .phase⟩, ⟨12, .phase⟩], none⟩) rfl (fun KK hK => ?_) AllReadyH.nil
    go_simp
    refine hK.out _ _ trivial (fun hHeld => ?_)
    clear hK KK hHeld
    try simp only [Act.put, List.setIfInBounds_toArray, List.set_cons_zero, List.set_cons_succ]
    refine wpAnyH_done (by kernel_rfl) ?_ _
    have R6 := HE.out w4 _ _ r4 o4 u4
    obtain ⟨W6, hW6⟩ : ∃ W6, w4.setCell ⟨tb, 2, none⟩ (.slice aN (i + 1) cN) = W6 := ⟨_, rfl⟩
    rw [hW6] at R6
    try rw [hW6]
    clear r4 o4 u4 T4 z2 zf
    go_wp2_with fail
    go_ret
    exact ⟨rfl, R6⟩
end Go.Proofs.YtnmdnglbpkpfdaaGreatDoor

/- annexref.Bytes and annexref.Join by their contracts (as of layer 1). -/
namespace Go.Proofs.YtnmdnglbpkpfdaaGreatDoor
open Go.RowKit
set_option maxRecDepth 100000

/-- A new list of bytes: nil, or a row of its own; nothing old has turned. -/
def Fresh (w : World) (e : Ending) (w' : World) (n : Nat) (bs : List Int) : Prop :=
  ∃ ao c, e = .returned (.slice ao n c) ∧ w'.ownsRow w.heap.size 5 1 (.slice ao n c) n (bs.map (Value.int .u8)) ∧ Below w.heap.size w w'
theorem Lies.owned {w : World} {base n cap : Nat} {ao : Option Addr} {bs : List Int} (h : w.ownsRow base 5 1 (.slice ao n cap) n (bs.map (Value.int .u8))) : Lies w ao n cap bs := by
  rcases h.2 with ⟨hv, hn⟩ | ⟨g', cap', cur, hv, _⟩
  · cases hv
    have hl : bs.length = 0 := by simpa using h.1
    obtain rfl := List.eq_nil_of_length_eq_zero hl
    exact Lies.nil w
  · cases hv
    exact Lies.own h
theorem own_len {w : World} {base n : Nat} {v : Value} {bs : List Int} (h : w.ownsRow base 5 1 v n (bs.map (Value.int .u8))) : ∃ ao c, v = .slice ao n c := by
  rcases h.2 with ⟨hv, rfl⟩ | ⟨g', cap', cur, hv, _⟩
  · exact ⟨none, 0, hv⟩
  · exact ⟨_, _, hv⟩

set_option maxHeartbeats 400000 in
theorem bytes29_pos (b o cap n : Nat) (bs : List Int) (w : World) (hn : n ≤ 140737488355328) (hl : bs.length = n)
    (hc : ∀ t, t < n → w.cell? ⟨b, o + t, none⟩ = some (.int .u8 (bs.getD t 0))) :
    Calls Tryz.prog 63 #[.slice (some ⟨b, o, none⟩) n cap] w fun e w' => ∃ v, e = .returned v ∧ w'.ownsRow w.heap.size 5 1 v n (bs.map (Value.int .u8)) ∧ Below w.heap.size w w' := by
  obtain ⟨i0, hi, hz0, hz1, hz2⟩ := info_parts Tryz.info5
  have hni : (n : Int) ≤ 140737488355328 := by omega
  go_enter Tryz.func63, Tryz.ntmps63
  go_wp2
  go_loopw [3, 4] (fun v i wr => ∃ k : Nat, k ≤ n ∧ i = .int .i64 k ∧ wr.ownsRow w.heap.size 5 1 v k ((bs.take k).map (Value.int .u8)) ∧ Below w.heap.size w wr) (fun _ i _ => n - (intOf i).toNat)
  case atStart => exact ⟨0, Nat.zero_le _, rfl, World.ownsRow_nil _ _ _ _, Below.refl _ _⟩
  case round =>
    obtain ⟨k, hk, rfl, hown, hb⟩ := hrel
    by_cases hlt : k < n
    · have hck := cell_later hb (hc k hlt)
      have hst : bs.take (k + 1) = bs.take k ++ [bs.getD k 0] := by
        rw [List.take_succ_eq_append_getElem (by omega)]
        simp [List.getD, show k < bs.length by omega]
      have HS : Hid (bs.take (k + 1) = bs.take k ++ [bs.getD k 0]) := hst
      clear hst hc
      generalize bs.getD k 0 = C at *
      go_wp2_with (at_builtin; refine wpList_append_own _ rfl (.tmp 11) (.tmp 16) 56 rfl w.heap.size 5 i0 (.int .u8 0) 1 1 Tryz.underlying56 hi hz0 hz1 hz2 rfl (by decide) _ _ _ rfl (hown.alloc _) ⟨wr.heap.size, 0, none⟩ 1 1 [.int .u8 C] rfl rfl (cell_one_new _ _ _) (by intro u hu; simp at hu; subst hu; rfl) (by unfold maxLen; omega) (by omega) (by have := hb.size; simp; omega) ?_; intro v' w1 hown1 hgrow1 hnil1)
      go_roundw
      case rel =>
        refine ⟨k + 1, by omega, by go_num, ?_, ?_⟩
        · rw [HS.out]; simpa using hown1
        · exact (hb.alloc hb.size _).grown hgrow1 (by simp; have := hb.size; omega) (fun k hk => (hown.lt k hk).1)
      case measure => simp [intOf]; omega
    · clear hc
      go_wp2
      go_ret
      obtain rfl : k = n := by omega
      refine ⟨_, rfl, ?_, hb⟩
      rw [List.take_of_length_le (by omega)] at hown
      exact hown

set_option maxHeartbeats 400000 in
theorem bytes29_zero (ao : Option Addr) (cap : Nat) (w : World) :
    Calls Tryz.prog 63 #[.slice ao 0 cap] w fun e w' => e = .returned (.slice none 0 0) ∧ w' = w := by
  go_enter Tryz.func63, Tryz.ntmps63
  go_wp2
  refine wp_loop_rounds 1 ?_
  rw [rounds_succ]
  go_wp2
  go_ret
  exact ⟨rfl, rfl⟩

theorem bytes29_any (ao : Option Addr) (n cap : Nat) (bs : List Int) (w : World) (hn : n ≤ 140737488355328) (hL : Lies w ao n cap bs) :
    Calls Tryz.prog 63 #[.slice ao n cap] w fun e w' => Fresh w e w' n bs := by
  by_cases h0 : 0 < n
  · obtain ⟨b, o, rfl, hc⟩ := hL.at h0
    refine (bytes29_pos b o cap n bs w hn hL.hlen hc).mono ?_
    rintro e w' ⟨v, rfl, hown, hb⟩
    obtain ⟨ao, c, rfl⟩ := own_len hown
    exact ⟨ao, c, rfl, hown, hb⟩
  · obtain rfl : n = 0 := by omega
    obtain rfl := List.eq_nil_of_length_eq_zero hL.hlen
    refine (bytes29_zero ao cap w).mono ?_
    rintro e w' ⟨rfl, rfl⟩
    exact ⟨none, 0, rfl, World.ownsRow_nil _ _ _ _, Below.refl _ _⟩
end Go.Proofs.YtnmdnglbpkpfdaaGreatDoor

/- Small functions of the statements of layer 7, by their contracts: num, block. -/
namespace Go.Proofs.YtnmdnglbpkpfdaaGreatDoor
open Go.RowKit Go.Maps
set_option maxRecDepth 100000

theorem num7 (x : Int) (w : World) : Calls Tryz.prog 15 #[.int .i64 x] w fun e w' => e = .returned (.int .i64 x) ∧ w' = w := by
  go_enter Tryz.func15, Tryz.ntmps15
  go_wp2
  go_ret
  exact ⟨rfl, rfl⟩
theorem cell_one7 (w : World) (x : Value) (t : TypeId) : ∀ j u, [x][j]? = some u → (w.alloc (.cells #[x] t)).cell? ((⟨w.heap.size, 0, none⟩ : Addr).add j) = some u := by
  intro j u hj
  match j, hj with
  | 0, hj => simp at hj; subst hj; simp [Addr.add]
/-- So many bytes, 512 of them. -/
def blkB (bs : List Int) : List Int := bs.take 512 ++ List.replicate (512 - bs.length) 0
theorem blkB_len (bs : List Int) : (blkB bs).length = 512 := by simp [blkB]; omega
theorem blkB_by {bs : List Int} (h : ∀ x ∈ bs, 0 ≤ x ∧ x ≤ 255) : ∀ x ∈ blkB bs, 0 ≤ x ∧ x ≤ 255 := fun x hx => by
  rcases List.mem_append.1 hx with hx | hx
  · exact h x (List.mem_of_mem_take hx)
  · have := List.eq_of_mem_replicate hx; omega
/-- A list of 512 bytes of one's own, from that block number on. -/
def B512 (w : World) (base : Nat) (v : Value) (bs : List Int) : Prop := w.ownsRow base 5 1 v 512 (bs.map (Value.int .u8))
set_option maxHeartbeats 2000000 in
theorem block7 (ao : Option Addr) (n c : Nat) (bs : List Int) (w : World) (hn : n ≤ 140737488355328) (hL : Lies w ao n c bs) :
    Calls Tryz.prog 28 #[.slice ao n c] w fun e w' => ∃ g cap, e = .returned (.slice (some ⟨g, 0, none⟩) 512 cap) ∧ B512 w' w.heap.size (.slice (some ⟨g, 0, none⟩) 512 cap) (blkB bs) ∧ Below w.heap.size w w' := by
  obtain ⟨i0, hi, hz0, hz1, hz2⟩ := info_parts Tryz.info5
  have hl := hL.hlen
  have hni : (n : Int) ≤ 140737488355328 := by omega
  go_enter Tryz.func28, Tryz.ntmps28
  go_wp2_with fail
  refine (bytes29_any ao n c bs w hn hL).mono ?_
  rintro e w1 ⟨a1, c1, rfl, o1, b1⟩
  have s1 := b1.size
  have HBL : Hid (bs.length = n) := hl
  clear hl
  by_cases h5 : 512 < n
  · have h5i : (512 : Int) < n := by omega
    rcases o1.2 with ⟨_, h0⟩ | ⟨g, cap, cur, hv, hg, hh, k1, k2, k3, k4⟩
    · omega
    cases hv
    have hci : (512 : Int) ≤ c1 := by omega
    have hcn : 512 ≤ c1 := by omega
    have HO : Hid (B512 w1 w.heap.size (.slice (some ⟨g, 0, none⟩) 512 c1) (blkB bs)) := by
      refine ⟨by simp [blkB_len], Or.inr ⟨g, c1, cur, rfl, hg, hh, by omega, k2, k3, ?_⟩⟩
      have e : blkB bs = bs.take 512 := by
        unfold blkB
        rw [show 512 - bs.length = 0 by rw [HBL.out]; omega]
        simp
      rw [e, List.map_take, ← k4, List.take_take, Nat.min_eq_left (by omega)]
    clear hh k4 o1
    go_wp2_with fail
    refine wp_loop_rounds 1 ?_
    rw [rounds_succ]
    go_wp2_with fail
    go_ret
    exact ⟨g, c1, rfl, HO.out, b1⟩
  · have h5i : ¬ (512 : Int) < n := by omega
    have h5n : n ≤ 512 := by omega
    go_wp2_with fail
    go_loopw [3] (fun v wr => ∃ k : Nat, n ≤ k ∧ k ≤ 512 ∧ wr.ownsRow w.heap.size 5 1 v k ((bs ++ List.replicate (k - n) 0).map (Value.int .u8)) ∧ Below w.heap.size w wr) (fun v _ => 512 - (match v with | .slice _ k _ => k | _ => 0))
    case atStart => exact ⟨n, Nat.le_refl _, h5n, by simpa using o1, b1⟩
    case round =>
      obtain ⟨k, hk, hk5, ho, hb⟩ := hrel
      obtain ⟨ak, ck, rfl⟩ := row_slice ho
      have hki : (k : Int) ≤ 512 := by omega
      have sb := hb.size
      by_cases hlt : k < 512
      · have hlti : (k : Int) < 512 := by omega
        go_wp2_with (first
          | (at_builtin; refine wpList_append_own _ rfl _ _ 56 rfl w.heap.size 5 i0 (.int .u8 0) 1 1 Tryz.underlying56 hi hz0 hz1 hz2 rfl (by decide) _ _ _ rfl (ho.alloc _) ⟨wr.heap.size, 0, none⟩ 1 1 [.int .u8 0] rfl rfl (cell_one7 _ _ _) (by intro u hu; simp at hu; subst hu; rfl) (by unfold maxLen; omega) (by omega) (by simp; omega) ?_; intro v' w3 hown3 hgrow3 hnil3))
        have hbw3 : Below w.heap.size w w3 := (hb.alloc sb _).grown hgrow3 (by simp; omega) (fun b hb' => (ho.lt b hb').1)
        have e : (bs ++ List.replicate (k - n) 0).map (Value.int .u8) ++ [Value.int .u8 0] = (bs ++ List.replicate (k + 1 - n) 0).map (Value.int .u8) := by
          rw [show k + 1 - n = (k - n) + 1 by omega, List.replicate_succ']
          simp
        rw [e] at hown3
        obtain ⟨a3, c3, rfl⟩ := row_slice hown3
        go_roundw
        case rel => exact ⟨k + 1, by omega, by omega, hown3, hbw3⟩
        case measure => simp; omega
      · obtain rfl : k = 512 := by omega
        have HO : Hid (∃ g cap, Value.slice ak 512 ck = .slice (some ⟨g, 0, none⟩) 512 cap) := by
          rcases ho.2 with ⟨_, h0⟩ | ⟨g, cap, cur, hv, _⟩
          · omega
          · exact ⟨g, cap, hv⟩
        have e : blkB bs = bs ++ List.replicate (512 - n) 0 := by
          unfold blkB
          rw [HBL.out, List.take_of_length_le (by rw [HBL.out]; omega)]
        have HE : Hid (blkB bs = bs ++ List.replicate (512 - n) 0) := e
        clear e
        go_wp2_with fail
        go_ret
        obtain ⟨g, cap, hv⟩ := HO.out
        rw [hv] at ho
        refine ⟨g, cap, by exact congrArg Ending.returned hv, ?_, hb⟩
        unfold B512
        rw [HE.out]
        exact ho
end Go.Proofs.YtnmdnglbpkpfdaaGreatDoor

/- Begin, Write, Read, Drop in one word: what a transaction is, and what it sees. -/
namespace Go.Proofs.YtnmdnglbpkpfdaaGreatDoor
open Go.RowKit Go.Maps
set_option maxRecDepth 100000

/-- What a transaction sees of a block. -/
def seesF (S : DevS) (m : List (Nat × Nat)) (f : Nat → List Int) (a : List (Nat × Nat)) (fa : Nat → List Int) (b : Nat) : List Int := if (lk m b).isSome then f b else if (lk a b).isSome then fa b else rdB S b
def updF (f : Nat → List Int) (b : Nat) (ds : List Int) : Nat → List Int := fun x => if x = b then ds else f x
theorem sees_of {w : World} {S : DevS} {m a : List (Nat × Nat)} {f fa : Nat → List Int} (hV : Vals w f m) (hVA : Vals w fa a) (b : Nat) : Sees w S m a b (seesF S m f a fa b) := by
  unfold seesF
  cases e : lk m b with
  | some g => exact Or.inl ⟨g, e, by simpa using (hV _ (mem_lk e)).1⟩
  | none =>
    refine Or.inr ⟨e, ?_⟩
    cases e2 : lk a b with
    | some g => exact Or.inl ⟨g, rfl, by simpa using (hVA _ (mem_lk e2)).1⟩
    | none => exact Or.inr ⟨rfl, by simp⟩
theorem Tx.begin {w : World} {d : Nat} {S : DevS} {k N : Nat} {G : Nat → Prop} {jb st sz : Nat} {seq : Int} {place : Nat} {free : Int} {bm nd : Nat} {a : List (Nat × Nat)} {fa : Nat → List Int} (h : Jn w d S k N G jb st sz seq place free bm nd a fa) (ho : S.off = false) (f : Nat → List Int) :
    Calls Tryz.prog 12 #[.pointer (some ⟨jb, 0, none⟩)] w fun e w' => ∃ tb wm, e = .returned (.pointer (some ⟨tb, 0, none⟩)) ∧ w.heap.size ≤ tb ∧ w.heap.size ≤ wm ∧ Tx w' d S k N G jb st sz seq place free bm nd a fa tb wm 0 [] f (.slice none 0 0) 0 ∧ Turns (fun i => G i ∨ i = jb) w w' := by
  refine (begin_ok h.D h.J h.gj ho).mono ?_
  rintro e w' ⟨tb, wm, rfl, l1, l2, J', T', M', D', t⟩
  have hG := h.D.lt
  have lj := heap_lt h.J
  have la := h.A.own.lt
  refine ⟨tb, wm, rfl, l1, l2, ⟨D', J', T', h.A.turns t (fun e => e.elim h.ga (fun e => h.ja e.symm)), h.VA.turns t (fun p hp e => e.elim (h.gva p hp) (fun e => ?_)), M', (fun p hp => by cases hp), h.gj, fun r => by have := hG _ r; omega, h.ga, fun r => by have := hG _ r; omega, (fun p hp => by cases hp), h.gva, by omega, fun e => mp_cells M' T' e, by omega, by omega, h.ja, by omega⟩, t⟩
  have h1 := (h.VA p hp).1
  have h2 := h.J
  unfold Jb at h2
  rw [e, h2] at h1
  simp [bl] at h1
theorem Tx.write {w : World} {d : Nat} {S : DevS} {k N : Nat} {G : Nat → Prop} {jb st sz : Nat} {seq : Int} {place : Nat} {free : Int} {bm nd : Nat} {a : List (Nat × Nat)} {fa : Nat → List Int} {tb wm ns : Nat} {m : List (Nat × Nat)} {f : Nat → List Int} {sv : Value} {last : Int} (h : Tx w d S k N G jb st sz seq place free bm nd a fa tb wm ns m f sv last) (ho : S.off = false) (hst : st + sz ≤ k) (b : Nat) (hb : b < k) (hout : b < st ∨ st + sz ≤ b) (ao : Option Addr) (c : Nat) (ds : List Int) (hL : Lies w ao 512 c ds) (hy : ∀ x ∈ ds, 0 ≤ x ∧ x ≤ 255) (haG : ∀ ad, ao = some ad → ¬ G ad.block) (hroom : (lk m b).isSome = true ∨ m.length < 24) (hn : ns ≤ 1000000) :
    Calls Tryz.prog 27 #[.pointer (some ⟨tb, 0, none⟩), .int .i64 b, .slice ao 512 c] w fun e w' => ∃ g, e = .returned (.int .i64 0) ∧ w.heap.size ≤ g ∧ Tx w' d S k N G jb st sz seq place free bm nd a fa tb wm (ns + 1) (mput m b g) (updF f b ds) sv last ∧ Turns (fun i => G i ∨ i = wm) w w' := by
  refine (txWrite_ok h.D h.J h.T h.M h.gj h.gt h.gm h.tm ho hst b hb hout ao c ds hL haG hroom hn).mono ?_
  rintro e w' ⟨g, rfl, lg, hg, M', D', t⟩
  have hG := h.D.lt
  have nV : ∀ (x : Nat) (l : List Int), w.heap[x]? = some (bl l) → ¬ G x → ¬ (G x ∨ x = wm) := fun x l hx hg e => e.elim hg (fun e => mp_no_bl h.M (by rw [← e]; exact hx))
  refine ⟨g, rfl, lg, { h with
    D := D'
    J := (t.block jb (heap_lt h.J) (fun e => e.elim h.gj h.jm)).trans h.J
    T := (t.block tb (heap_lt h.T) (fun e => e.elim h.gt h.tm)).trans h.T
    A := h.A.turns t (fun e => e.elim h.ga h.am)
    VA := h.VA.turns t (fun p hp => nV p.2 _ (h.VA p hp).1 (h.gva p hp))
    M := M'
    V := fun p hp => ?_
    gv := fun p hp => ?_ }, t⟩
  · by_cases e : p.1 = b
    · have h1 := lk_mem (mput_rising b g h.M.ris) hp
      rw [lk_mput m b g p.1 h.M.ris, if_pos e.symm] at h1
      have h2 : g = p.2 := Option.some.inj h1
      unfold updF
      rw [if_pos e, ← h2]
      exact ⟨hg, hL.hlen, hy⟩
    · rcases mput_mem hp with rfl | hp
      · exact absurd rfl e
      · have hv := h.V p hp
        unfold updF
        rw [if_neg e]
        exact ⟨(t.block p.2 (heap_lt hv.1) (nV p.2 _ hv.1 (h.gv p hp))).trans hv.1, hv.2⟩
  · rcases mput_mem hp with rfl | hp
    · exact fun r => by have := hG _ r; simp only at this; omega
    · exact h.gv p hp
theorem Tx.read {w : World} {d : Nat} {S : DevS} {k N : Nat} {G : Nat → Prop} {jb st sz : Nat} {seq : Int} {place : Nat} {free : Int} {bm nd : Nat} {a : List (Nat × Nat)} {fa : Nat → List Int} {tb wm ns : Nat} {m : List (Nat × Nat)} {f : Nat → List Int} {sv : Value} {last : Int} (h : Tx w d S k N G jb st sz seq place free bm nd a fa tb wm ns m f sv last) (ho : S.off = false) (hst : st + sz ≤ k) (b : Nat) (hb : b < k) (hout : b < st ∨ st + sz ≤ b) (hl : (seesF S m f a fa b).length = 512) :
    Calls Tryz.prog 33 #[.pointer (some ⟨tb, 0, none⟩), .int .i64 (b : Nat)] w fun e w' => ∃ g, e = .returned (.tuple #[hv g, .int .i64 0]) ∧ w.heap.size ≤ g ∧ w'.heap[g]? = some (bl (seesF S m f a fa b)) ∧ Tx w' d S k N G jb st sz seq place free bm nd a fa tb wm ns m f sv last ∧ Turns G w w' := by
  refine (txRead_ok h.D h.J h.T h.M h.A h.gj h.gt h.gm h.ga b (fun g e => h.gv _ (mem_lk e)) (fun g e => h.gva _ (mem_lk e)) ho hst hb hout _ (sees_of h.V h.VA b) hl).mono ?_
  rintro e w' ⟨g, rfl, lg, hg, D', t⟩
  exact ⟨g, rfl, lg, hg, h.same ⟨D', t⟩, t⟩
theorem Tx.drop {w : World} {d : Nat} {S : DevS} {k N : Nat} {G : Nat → Prop} {jb st sz : Nat} {seq : Int} {place : Nat} {free : Int} {bm nd : Nat} {a : List (Nat × Nat)} {fa : Nat → List Int} {tb wm ns : Nat} {m : List (Nat × Nat)} {f : Nat → List Int} {sv : Value} {last : Int} (h : Tx w d S k N G jb st sz seq place free bm nd a fa tb wm ns m f sv last) :
    Calls Tryz.prog 36 #[.pointer (some ⟨tb, 0, none⟩)] w fun e w' => e = .returned (.tuple #[]) ∧ Td w' tb ∧ Jn w' d S k N G jb st sz seq place free bm nd a fa ∧ Turns (fun i => i = tb ∨ i = jb) w w' := by
  refine (drop_ok h.T h.J h.tj).mono ?_
  rintro e w' ⟨rfl, T', J', t⟩
  refine ⟨rfl, T', ⟨h.D.turns t (fun i hi e => e.elim (fun e => h.gt (e ▸ hi)) (fun e => h.gj (e ▸ hi))), J', h.A.turns t (fun e => e.elim (fun e => h.ta e.symm) (fun e => h.ja e.symm)), h.VA.turns t (fun p hp e => ?_), h.gj, h.ga, h.gva, h.ja⟩, t⟩
  have h1 := (h.VA p hp).1
  rcases e with e | e
  · have h2 := h.T
    unfold Tb at h2
    rw [e, h2] at h1
    simp [bl] at h1
  · have h2 := h.J
    unfold Jb at h2
    rw [e, h2] at h1
    simp [bl] at h1
theorem txWrite_end {w : World} {tb : Nat} (hT : Td w tb) (b : Int) (v : Value) :
    Calls Tryz.prog 27 #[.pointer (some ⟨tb, 0, none⟩), .int .i64 b, v] w fun e w' => e = .returned (.int .i64 76) ∧ w' = w := by
  have t0 : w.cell? ⟨tb, 0, none⟩ = some (.pointer none) := by unfold Td at hT; simp [World.cell?, hT]
  go_enter Tryz.func27, Tryz.ntmps27
  go_wp2
  go_ret
  exact ⟨rfl, rfl⟩
end Go.Proofs.YtnmdnglbpkpfdaaGreatDoor

/- Plain mathematics: what is read of a device behind writes and flushes; a head is read back. -/
namespace Go.Proofs.YtnmdnglbpkpfdaaGreatDoor
open Go.RowKit
set_option maxRecDepth 100000

/-- A block of a list of bytes. -/
abbrev blk (l : List Int) (b : Nat) : List Int := (l.drop (512 * b)).take 512
theorem blk_at (l : List Int) (b t : Nat) : (blk l b)[t]? = if t < 512 then l[512 * b + t]? else none := by
  rw [List.getElem?_take]
  by_cases h : t < 512
  · rw [if_pos h, if_pos h, List.getElem?_drop]
  · rw [if_neg h, if_neg h]
theorem splice_at (l d : List Int) (o i : Nat) (h : o + d.length ≤ l.length) : (splice l o d)[i]? = if i < o then l[i]? else if i < o + d.length then d[i - o]? else l[i]? := by
  unfold splice
  have e1 : (l.take o).length = o := by simp; omega
  by_cases h1 : i < o
  · rw [if_pos h1, List.getElem?_append_left (by omega), List.getElem?_take, if_pos h1]
  · rw [if_neg h1, List.getElem?_append_right (by omega), e1]
    by_cases h2 : i < o + d.length
    · rw [if_pos h2, List.getElem?_append_left (by omega)]
    · rw [if_neg h2, List.getElem?_append_right (by omega), List.getElem?_drop]
      congr 1
      omega
theorem blk_lay (l : List Int) (k b : Nat) (d : List Int) (x : Nat) (hl : l.length = 512 * k) (hb : b < k) (hd : d.length = 512) : blk (layB l (b, d)) x = if b = x then d else blk l x := by
  apply List.ext_getElem?
  intro t
  rw [blk_at]
  unfold layB
  rw [splice_at _ _ _ _ (by simp only; omega)]
  simp only
  by_cases ht : t < 512
  · rw [if_pos ht]
    by_cases e : b = x
    · subst e
      rw [if_pos rfl, if_neg (by omega), if_pos (by omega)]
      congr 1
      omega
    · rw [if_neg e, blk_at, if_pos ht]
      by_cases h1 : 512 * x + t < 512 * b
      · rw [if_pos h1]
      · rw [if_neg h1, if_neg (by omega)]
  · rw [if_neg ht]
    by_cases e : b = x
    · rw [if_pos e, List.getElem?_eq_none (by omega)]
    · rw [if_neg e, blk_at, if_neg ht]
theorem rdB_wrote (S : DevS) (b : Nat) (d : List Int) (x : Nat) : rdB (wrote S b d) x = if b = x then d else rdB S x := by
  unfold rdB
  have e1 : newest (wrote S b d).pend x = if b = x then some d else newest S.pend x := newest_snoc S.pend b d x
  rw [e1]
  by_cases e : b = x
  · rw [if_pos e, if_pos e]; rfl
  · rw [if_neg e, if_neg e]; rfl
theorem snoc_ind {α : Type} {P : List α → Prop} (h0 : P []) (h1 : ∀ l a, P l → P (l ++ [a])) : ∀ l, P l := fun l => by
  have q : ∀ l : List α, P l.reverse := fun l => by
    induction l with
    | nil => exact h0
    | cons a l ih => rw [List.reverse_cons]; exact h1 _ _ ih
  simpa using q l.reverse
/-- What is read, is what all writes that pend, laid over, leave. -/
theorem blk_layAll (l : List Int) (k : Nat) (hl : l.length = 512 * k) (hy : ∀ x ∈ l, 0 ≤ x ∧ x ≤ 255) (ps : List (Nat × List Int)) (hp : ∀ p ∈ ps, p.1 < k ∧ p.2.length = 512 ∧ ∀ x ∈ p.2, 0 ≤ x ∧ x ≤ 255) (x : Nat) : blk (layAll l ps) x = (newest ps x).getD (blk l x) := by
  induction ps using snoc_ind with
  | h0 => rfl
  | h1 ps p ih =>
    obtain ⟨b, d⟩ := p
    have ih := ih (fun p hm => hp p (List.mem_append_left _ hm))
    have hq := hp (b, d) (by simp)
    have hg := (layAll_good ps l hl hy (fun p hm => hp p (List.mem_append_left _ hm))).1
    have e1 : layAll l (ps ++ [(b, d)]) = layB (layAll l ps) (b, d) := by unfold layAll; rw [List.foldl_append]; rfl
    rw [e1, blk_lay _ k b d x hg hq.1 hq.2.1, newest_snoc, ih]
    by_cases e : b = x
    · rw [if_pos e, if_pos e]; rfl
    · rw [if_neg e, if_neg e]
theorem rdB_flushed {S : DevS} {k : Nat} (h : Good S k) (x : Nat) : rdB (flushed S) x = rdB S x := blk_layAll S.last k h.len h.by_ S.pend h.pend x
theorem fold_val : ∀ (l : List Int) (a : Int), l.foldl (fun x c => x * 256 + c) a = a * 256 ^ l.length + val l
  | [], a => by simp [val]
  | c :: l, a => by
    have h1 := fold_val l (a * 256 + c)
    have h2 := fold_val l (0 * 256 + c)
    simp only [List.foldl_cons, val, List.length_cons] at *
    rw [h1, h2, Int.pow_succ]
    have : (a * 256 + c) * 256 ^ l.length = a * (256 ^ l.length * 256) + (0 * 256 + c) * 256 ^ l.length := by
      rw [Int.add_mul, Int.mul_assoc, Int.mul_comm 256 (256 ^ l.length)]; simp
    omega
theorem val_cons (c : Int) (l : List Int) : val (c :: l) = c * 256 ^ l.length + val l := by
  have := fold_val l (0 * 256 + c)
  simp only [val, List.foldl_cons] at *
  rw [this]; simp

theorem p256 (k : Nat) : (256 : Int) ^ k = 2 ^ (8 * k) := by
  rw [Int.pow_mul]; rfl

theorem be_add (c : Int) (m : Nat) (X : Int) : ∀ k, k ≤ m → be (X + c * 2 ^ (8 * m)) k = be X k
  | 0, _ => rfl
  | k + 1, h => by
    simp only [be]
    rw [be_add c m X k (by omega)]
    congr 1
    have hp : (2 : Int) ^ (8 * k) ≠ 0 := Int.ne_of_gt (Int.pow_pos (by decide))
    have e : c * 2 ^ (8 * m) = (c * 2 ^ (8 * (m - k - 1)) * 256) * 2 ^ (8 * k) := by
      rw [Int.mul_assoc, Int.mul_assoc]
      congr 1
      rw [show (256 : Int) = 2 ^ 8 by rfl, ← Int.pow_add, ← Int.pow_add]
      congr 1
      omega
    rw [e, Int.add_mul_ediv_right _ _ hp, Int.add_mul_emod_self_right]

theorem be_val : ∀ (l : List Int), (∀ x ∈ l, 0 ≤ x ∧ x ≤ 255) → be (val l) l.length = l
  | [], _ => rfl
  | c :: l, h => by
    have hc := h c (by simp)
    have hl : ∀ x ∈ l, 0 ≤ x ∧ x ≤ 255 := fun x hx => h x (by simp [hx])
    have hb := val_bd l hl
    rw [val_cons, p256, List.length_cons, be]
    rw [p256] at hb
    have hp : (2 : Int) ^ (8 * l.length) ≠ 0 := Int.ne_of_gt (Int.pow_pos (by decide))
    congr 1
    · rw [Int.add_comm, Int.add_mul_ediv_right _ _ hp, Int.ediv_eq_zero_of_lt hb.1 hb.2]
      omega
    · rw [Int.add_comm, be_add c l.length (val l) l.length (Nat.le_refl _)]
      exact be_val l hl

theorem be_mod (X : Int) (k : Nat) : be X k = be (X % 2 ^ (8 * k)) k := by
  have h := be_add (X / 2 ^ (8 * k)) k (X % 2 ^ (8 * k)) k (Nat.le_refl _)
  rw [Int.mul_comm, Int.emod_add_mul_ediv] at h
  exact h
theorem val_be : ∀ (k : Nat) (X : Int), 0 ≤ X → X < 2 ^ (8 * k) → val (be X k) = X
  | 0, X, h0, h1 => by simp at h1; simp [be, val]; omega
  | k + 1, X, h0, h1 => by
    have hp : (0 : Int) < 2 ^ (8 * k) := Int.pow_pos (by decide)
    rw [be, val_cons, be_length, p256, be_mod X k, val_be k _ (Int.emod_nonneg _ (Int.ne_of_gt hp)) (Int.emod_lt_of_pos _ hp)]
    have hq0 : 0 ≤ X / 2 ^ (8 * k) := Int.ediv_nonneg h0 (Int.le_of_lt hp)
    have hq1 : X / 2 ^ (8 * k) < 256 := by
      rw [Int.ediv_lt_iff_lt_mul hp]
      rw [show 8 * (k + 1) = 8 * k + 8 by omega, Int.pow_add] at h1
      rw [Int.mul_comm]; exact h1
    rw [Int.emod_eq_of_lt hq0 hq1]
    have := Int.emod_add_mul_ediv X (2 ^ (8 * k))
    rw [Int.mul_comm] at this
    omega



theorem jsum_u (l : List Int) : 0 ≤ jsum l ∧ jsum l ≤ 18446744073709551615 := S2.U.fwd (h := 14695981039346656037) l ⟨by decide, by decide⟩
theorem u64_same (x : Int) (h0 : 0 ≤ x) (h1 : x ≤ 4611686018427387905) : IntKind.u64.wrap x = x := Go.IntWalk.u64_in x ⟨h0, by omega⟩
/-- The twenty bytes of a head behind its mark and zeros. -/
theorem head_cut (seq place : Int) : (((jheadB seq place).drop 8).take 20) = be (IntKind.u64.wrap seq) 8 ++ be (IntKind.u64.wrap place) 4 ++ be (jsum (hdB seq place)) 8 := by
  have h : jheadB seq place = ([65, 78, 88, 72] ++ be 0 4) ++ ((be (IntKind.u64.wrap seq) 8 ++ be (IntKind.u64.wrap place) 4 ++ be (jsum (hdB seq place)) 8) ++ List.replicate 484 0) := by
    unfold jheadB fillB
    rw [List.length_append, hdB_len, be_length]
    simp [hdB]
  rw [h, List.drop_left' (by simp [be_length]), List.take_left' (by simp [be_length])]
theorem head_front (seq place : Int) : (jheadB seq place).take 20 = hdB seq place := by
  unfold jheadB fillB
  rw [List.append_assoc, List.take_left' (hdB_len seq place)]
theorem head_back (seq place : Nat) (places : Int) (h0 : 1 ≤ seq) (h1 : seq ≤ 4611686018427387905) (hp : (place : Int) < places) (hq : places ≤ 4096) : (hdR (jheadB seq place) places).1.1 = seq ∧ (hdR (jheadB seq place) places).2.1.1 = place ∧ hdOk (jheadB seq place) places = true := by
  have hs := jsum_u (hdB seq place)
  have e1 := u64_same (seq : Int) (by omega) (by omega)
  have e2 := u64_same (place : Int) (by omega) (by omega)
  have hc := head_cut seq place
  rw [e1, e2] at hc
  have d1 : ((be (seq : Int) 8 ++ be (place : Int) 4 ++ be (jsum (hdB seq place)) 8).drop 0).take 8 = be (seq : Int) 8 := by
    rw [List.drop_zero, List.append_assoc, List.take_left' (be_length _ _)]
  have d2 : ((be (seq : Int) 8 ++ be (place : Int) 4 ++ be (jsum (hdB seq place)) 8).drop 8).take 4 = be (place : Int) 4 := by
    rw [List.append_assoc, List.drop_left' (be_length _ _), List.take_left' (be_length _ _)]
  have d3 : ((be (seq : Int) 8 ++ be (place : Int) 4 ++ be (jsum (hdB seq place)) 8).drop 12).take 8 = be (jsum (hdB seq place)) 8 := by
    rw [List.drop_left' (by simp [be_length]), List.take_of_length_le (by simp [be_length])]
  have a1 : rdNum 8 20 (be (seq : Int) 8 ++ be (place : Int) 4 ++ be (jsum (hdB seq place)) 8) 0 0 4611686018427387905 = ((seq : Int), 8, 0) := by
    unfold rdNum
    rw [if_neg (by simp), if_neg (by omega), d1, val_be 8 _ (by omega) (Int.lt_of_le_of_lt (show (seq : Int) ≤ 4611686018427387905 by omega) (by decide)), if_neg (by omega)]
  have a2 : rdNum 4 20 (be (seq : Int) 8 ++ be (place : Int) 4 ++ be (jsum (hdB seq place)) 8) 8 0 (places - 1) = ((place : Int), 12, 0) := by
    unfold rdNum
    rw [if_neg (by simp), if_neg (by omega), d2, val_be 4 _ (by omega) (Int.lt_of_le_of_lt (show (place : Int) ≤ 4096 by omega) (by decide)), if_neg (by omega)]
  have a3 : rdSum 20 (be (seq : Int) 8 ++ be (place : Int) 4 ++ be (jsum (hdB seq place)) 8) 12 0 = (jsum (hdB seq place), 20, 0) := by
    unfold rdSum
    rw [if_neg (by simp), if_neg (by omega), d3, val_be 8 _ hs.1 (Int.lt_of_le_of_lt hs.2 (by decide))]
  have hR : hdR (jheadB seq place) places = (((seq : Int), 8, 0), ((place : Int), 12, 0), (jsum (hdB seq place), 20, 0)) := by
    unfold hdR
    simp only [hc, a1, a2, a3]
  refine ⟨by rw [hR], by rw [hR], ?_⟩
  unfold hdOk
  rw [hR, head_front]
  have hb : begs (jheadB seq place) [65, 78, 88, 72] = true := by
    unfold begs
    refine decide_eq_true ?_
    have h : jheadB seq place = [65, 78, 88, 72] ++ ((be 0 4 ++ be (IntKind.u64.wrap seq) 8 ++ be (IntKind.u64.wrap place) 4 ++ be (jsum (hdB seq place)) 8) ++ List.replicate 484 0) := by
      unfold jheadB fillB
      rw [List.length_append, hdB_len, be_length]
      simp [hdB]
    rw [h]
    rfl
  rw [hb]
  simp
  omega
theorem rdB_burnt (S : DevS) (x : Nat) : rdB (burnt S) x = rdB S x := by
  unfold burnt
  split <;> rfl
theorem zB_len : zB.length = 512 := by simp [zB]
theorem Good.zrs {S : DevS} {k st : Nat} (h : Good S k) : ∀ p, st + 1 + p ≤ k → Good (zrs S st p) k
  | 0, _ => h
  | p + 1, hp => (Good.zrs h p (by omega)).burnt.wrote (by omega) zB_len zB_by
theorem rdB_zrs {S : DevS} {st x : Nat} : ∀ p, rdB (zrs S st p) x = if st + 1 ≤ x ∧ x < st + 1 + p then zB else rdB S x
  | 0 => by rw [if_neg (by omega)]; rfl
  | p + 1 => by
    show rdB (wrote (burnt (zrs S st p)) (st + 1 + p) zB) x = _
    rw [rdB_wrote, rdB_burnt, rdB_zrs p]
    by_cases e : st + 1 + p = x
    · rw [if_pos e, if_pos (by omega)]
    · rw [if_neg e]
      by_cases c : st + 1 ≤ x ∧ x < st + 1 + p
      · rw [if_pos c, if_pos (by omega)]
      · rw [if_neg c, if_neg (by omega)]
theorem Good.fmt {S : DevS} {k st sz : Nat} (h : Good S k) (h1 : 1 ≤ sz) (h2 : st + sz ≤ k) : Good (fmtS S st sz) k := by
  have g1 := (Good.zrs (st := st) h (sz - 1) (by omega)).burnt.flushed
  exact (g1.burnt.wrote (by omega) (jheadB_len 1 0) (jheadB_by 1 0)).burnt.flushed
/-- What is read behind Format. -/
theorem rdB_fmt {S : DevS} {k st sz : Nat} (h : Good S k) (h1 : 1 ≤ sz) (h2 : st + sz ≤ k) (x : Nat) : rdB (fmtS S st sz) x = if st = x then jheadB 1 0 else if st + 1 ≤ x ∧ x < st + sz then zB else rdB S x := by
  have g0 := (Good.zrs (st := st) h (sz - 1) (by omega)).burnt
  have g1 := g0.flushed
  have g2 := (g1.burnt.wrote (b := st) (by omega) (jheadB_len 1 0) (jheadB_by 1 0)).burnt
  show rdB (flushed (burnt (wrote (burnt (flushed (burnt (zrs S st (sz - 1))))) st (jheadB 1 0)))) x = _
  rw [rdB_flushed g2, rdB_burnt, rdB_wrote, rdB_burnt, rdB_flushed g0, rdB_burnt, rdB_zrs]
  by_cases e : st = x
  · rw [if_pos e, if_pos e]
  · rw [if_neg e, if_neg e]
    by_cases c : st + 1 ≤ x ∧ x < st + sz
    · rw [if_pos c, if_pos (by omega)]
    · rw [if_neg c, if_neg (by omega)]
theorem zB_begs : begs zB [65, 78, 88, 68] = false := by decide
end Go.Proofs.YtnmdnglbpkpfdaaGreatDoor

/- State by its contract. -/
namespace Go.Proofs.YtnmdnglbpkpfdaaGreatDoor
open Go.RowKit Go.Maps
set_option maxRecDepth 100000

set_option maxHeartbeats 1000000 in
theorem state_ok {w : World} {jb d st sz n : Nat} {seq place free : Int} {bm : Nat} {op : Option Nat} {a : List (Nat × Nat)} (hJ : Jb w jb d st sz seq place free bm op) (hA : Mp w bm n a) :
    Calls Tryz.prog 17 #[.pointer (some ⟨jb, 0, none⟩)] w fun e w' => e = .returned (.tuple #[.int .i64 seq, .int .i64 free, .int .i64 a.length]) ∧ ∃ t, w' = w.drewN t := by
  obtain ⟨c0, c1, c2, c3, c4, c5, c6, c7, c8, fz⟩ := hJ.cells
  have hown := hA.own
  have hsz : (Maps.size (mD a) : Int) = (a.length : Int) := by simp [mD, Maps.size_eq]
  have hln : ∀ (ty : TypeId), (Builtin.len_ #[99] ty #[.map (some bm)]).run Tryz.prog w.drew = .ok (.int .i64 a.length) w.drew := fun ty => by
    have := (map_turns hown (Turns.drewN (fun _ => False) w 1) id).len Tryz.underlying99 ty
    rwa [hsz] at this
  go_enter Tryz.func17, Tryz.ntmps17
  go_wp2_with fail
  go_region_held3 (fun w' => w'.cell? ⟨jb, 3, none⟩ = some (.int .i64 seq) ∧ w'.cell? ⟨jb, 5, none⟩ = some (.int .i64 free) ∧ w'.cell? ⟨jb, 6, none⟩ = some (.map (some bm)) ∧ ∀ (ty : TypeId), (Builtin.len_ #[99] ty #[.map (some bm)]).run Tryz.prog w' = .ok (.int .i64 a.length) w')
    (exact ⟨c3, c5, c6, hln⟩)
    (fail)
  all_goals go_wp2
  all_goals refine bodyPost_ret (results_tmp3 rfl _ _ _) rfl ?_
  all_goals exact ⟨rfl, 1, rfl⟩
end Go.Proofs.YtnmdnglbpkpfdaaGreatDoor
