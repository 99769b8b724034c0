/- Save by its contract. -/
import Derived.Test.YtnmdnglbpkpfdaaGreatDoorPk09
import Derived.Deep.RegionHeldLaw
import Derived.Lib.SliceRun
import Derived.Deep.Upon
import Derived.BigQuiet
namespace Go.Proofs.YtnmdnglbpkpfdaaGreatDoor
open Go.RowKit Go.Maps
set_option maxRecDepth 100000

/-- What Save leaves. -/
structure SaveR (w w' : World) (d : Nat) (S : DevS) (k N : Nat) (G : Nat → Prop) (jb st sz : Nat) (seq : Int) (place : Nat) (free : Int) (bm nd : Nat) (a : List (Nat × Nat)) (fa : Nat → List Int) (tb wm ns : Nat) (m : List (Nat × Nat)) (f : Nat → List Int) (sv : Value) (l : List SvI) (la : Nat) : Prop where
  ex : ∃ sv' s, Tx w' d S k N G jb st sz seq place free bm nd a fa tb wm ns m f sv' ((la : Int) + 1) ∧ Svs w' G tb wm sv' (l ++ [s]) (la + 1) ∧ s.mark = la + 1 ∧ s.m = m ∧ s.f = f ∧ s.hn = ns ∧ ∀ b, sv'.ownBlock = some b → sv.ownBlock = some b ∨ w.heap.size ≤ b
  tr : Turns (fun i => G i ∨ i = tb ∨ sv.ownBlock = some i) w w'
set_option maxHeartbeats 2000000 in
theorem save_ok {w : World} {d : Nat} {S : DevS} {k N : Nat} {G : Nat → Prop} {jb st sz : Nat} {seq : Int} {place : Nat} {free : Int} {bm nd : Nat} {a : List (Nat × Nat)} {fa : Nat → List Int} {tb wm ns : Nat} {m : List (Nat × Nat)} {f : Nat → List Int} {sv : Value} {last : Int} (h : Tx w d S k N G jb st sz seq place free bm nd a fa tb wm ns m f sv last) (ho : S.off = false) {la : Nat} (hl : la ≤ 1000000) (hla : last = la) {l : List SvI} (hv : Svs w G tb wm sv l la) (hll : l.length ≤ 1000000) :
    Calls Tryz.prog 30 #[.pointer (some ⟨tb, 0, none⟩)] w fun e w' => e = .returned (.tuple #[.int .i64 ((la : Int) + 1), .int .i64 0]) ∧ SaveR w w' d S k N G jb st sz seq place free bm nd a fa tb wm ns m f sv l la := by
  subst hla
  obtain ⟨i0, hi0, hz0, hz1, hz2⟩ := info_parts Tryz.infoSave
  have hmf : ∀ (fn : Fn) (first cap : Array Value) (w : World), (Instr.makeFunc fn first cap).run Tryz.prog w = .ok (.func fn first cap) w := fun _ _ _ _ => rfl
  go_enter Tryz.func30, Tryz.ntmps30
  obtain ⟨W, hW⟩ : ∃ W, w.alloc (.cells #[.pointer (some ⟨tb, 0, none⟩)] 31) = W := ⟨_, rfl⟩
  have bW : Below w.heap.size w W := by rw [← hW]; exact (Below.refl _ w).alloc (Nat.le_refl _) _
  have hbx : W.heap[w.heap.size]? = some (.cells #[.pointer (some ⟨tb, 0, none⟩)] 31) := by rw [← hW]; exact (MapKept.heap_alloc w _).1
  have TW := h.below bW
  have sW : W.heap.size = w.heap.size + 1 := by rw [← hW]; simp
  have hGl := h.D.lt
  obtain ⟨q, hq⟩ : ∃ q, w.heap.size = q := ⟨_, rfl⟩
  rw [hq] at hbx
  have gq : ¬ G q := fun r => by have := hGl q r; omega
  have x0 : W.cell? ⟨q, 0, none⟩ = some (.pointer (some ⟨tb, 0, none⟩)) := by simp [World.cell?, hbx]
  have t0 := TW.T.cells.c0
  go_wp2_with fail
  try rw [hW]
  try rw [hq]
  refine (power_ok TW.D TW.J ho).mono ?_
  rintro e w1 ⟨rfl, q1⟩
  have T1 := TW.same q1
  have hbx1 := (q1.2.block q (heap_lt hbx) gq).trans hbx
  have y0 : w1.cell? ⟨q, 0, none⟩ = some (.pointer (some ⟨tb, 0, none⟩)) := by simp [World.cell?, hbx1]
  have t1 := T1.T.cells.c1
  clear x0 t0
  go_wp2_with fail
  refine (clone_any T1.M).mono ?_
  rintro e w2 ⟨rfl, M2, b2⟩
  obtain ⟨hm, hhm⟩ : ∃ hm, w1.heap.size = hm := ⟨_, rfl⟩
  rw [hhm] at M2
  try rw [hhm]
  have T2 := T1.below b2
  have hbx2 := (b2.block q (heap_lt hbx1)).trans hbx1
  obtain ⟨W3, hW3⟩ : ∃ W3, w2.alloc (.cells #[.map (some hm)] 99) = W3 := ⟨_, rfl⟩
  have bW3 : Below w2.heap.size w2 W3 := by rw [← hW3]; exact (Below.refl _ w2).alloc (Nat.le_refl _) _
  have hbh : W3.heap[w2.heap.size]? = some (.cells #[.map (some hm)] 99) := by rw [← hW3]; exact (MapKept.heap_alloc w2 _).1
  have sW3 : W3.heap.size = w2.heap.size + 1 := by rw [← hW3]; simp
  have T3 := T2.below bW3
  have M3 := M2.turns (Below.turns bW3 (fun _ => False)) id
  have hbx3 := (bW3.block q (heap_lt hbx2)).trans hbx2
  obtain ⟨hb, hhb⟩ : ∃ hb, w2.heap.size = hb := ⟨_, rfl⟩
  rw [hhb] at hbh
  have z0 : W3.cell? ⟨q, 0, none⟩ = some (.pointer (some ⟨tb, 0, none⟩)) := by simp [World.cell?, hbx3]
  obtain ⟨c0, c1, c2, c3, fz⟩ := T3.T.cells
  have f3 := fz 3
  have hwl : IntKind.i64.wrap ((la : Int) + 1) = la + 1 := Go.IntWalk.i64_in _ ⟨by omega, by omega⟩
  obtain ⟨W4, hW4⟩ : ∃ W4, W3.setCell ⟨tb, 3, none⟩ (.int .i64 ((la : Int) + 1)) = W4 := ⟨_, rfl⟩
  have TT4 : Tb W4 tb jb wm sv ((la : Int) + 1) := by rw [← hW4]; exact heap_setCell_same _ _ _ _ _ _ T3.T
  have u4 : Turns (fun i => i = tb) W3 W4 := by rw [← hW4]; exact Turns.cell W3 tb 3 _
  have hq4 : q ≠ tb := by have := heap_lt h.T; omega
  have hbx4 := (u4.block q (heap_lt hbx3) hq4).trans hbx3
  have z4 : W4.cell? ⟨q, 0, none⟩ = some (.pointer (some ⟨tb, 0, none⟩)) := by simp [World.cell?, hbx4]
  have d2 := TT4.cells.c2
  have d3 := TT4.cells.c3
  have df := TT4.cells.fz 2
  clear y0 t1
  go_wp2_with fail
  try rw [hW3]
  try rw [hhb]
  try rw [hW4]
  have hrow := hv.row
  have nsv : ∀ b, sv.ownBlock = some b → ¬ G b ∧ b ≠ tb := fun b hb => ⟨hv.gr b hb, fun e => own_typeJ hrow h.T (by decide) (by rw [hb, e])⟩
  have nsq : sv.ownBlock ≠ some q := fun e => by have := (hrow.lt q e).2; omega
  have hrW : W.ownsRow 0 127 2 sv l.length (svC l) := own_on hrow bW
  have hr1 := own_turns hrW q1.2 (fun b hb => (nsv b hb).1)
  have hr4 := own_turns (own_on (own_on hr1 b2) bW3) u4 (fun b hb => (nsv b hb).2)
  have hr4d : W4.drew.ownsRow 0 127 2 sv l.length (svC l) := hr4
  have s4 := u4.size
  have htl := heap_lt TT4
  have TA : ∀ o, Tb (W4.drew.alloc o) tb jb wm sv ((la : Int) + 1) := fun o => (Below.heap_alloc W4.drew o tb htl).trans TT4
  have HE : Hid (∀ gN cN w5, w5.ownsRow 0 127 2 (.slice (some ⟨gN, 0, none⟩) (l.length + 1) cN) (l.length + 1) (svC l ++ [.int .i64 ((la : Int) + 1), .func (Fn.func 65) #[] #[.pointer (some ⟨hb, 0, none⟩), .pointer (some ⟨q, 0, none⟩)]]) → (W4.drew.alloc (.cells #[.int .i64 ((la : Int) + 1), .func (Fn.func 65) #[] #[.pointer (some ⟨hb, 0, none⟩), .pointer (some ⟨q, 0, none⟩)]] 127)).grownBy w5 sv.ownBlock → (sv.ownBlock = some gN ∨ gN = (W4.drew.alloc (.cells #[.int .i64 ((la : Int) + 1), .func (Fn.func 65) #[] #[.pointer (some ⟨hb, 0, none⟩), .pointer (some ⟨q, 0, none⟩)]] 127)).heap.size) → SaveR w (w5.setCell ⟨tb, 2, none⟩ (.slice (some ⟨gN, 0, none⟩) (l.length + 1) cN)) d S k N G jb st sz seq place free bm nd a fa tb wm ns m f sv l la) := by
    intro gN cN w5 ho5 hg5 hat5
    have hsz : (W4.drew.alloc (.cells #[.int .i64 ((la : Int) + 1), .func (Fn.func 65) #[] #[.pointer (some ⟨hb, 0, none⟩), .pointer (some ⟨q, 0, none⟩)]] 127)).heap.size = W4.heap.size + 1 := by simp
    rw [hsz] at hat5
    have s1 := q1.2.size
    have s2 := b2.size
    have s4 := u4.size
    have t5 : Turns (fun i => sv.ownBlock = some i) W4 w5 := ((Turns.drewN _ W4 1).trans (Turns.alloc _ W4.drew _) (fun _ _ h => h)).trans (Turns.grown hg5 (fun b hb => hb)) (fun _ _ h => h)
    have TT5 : Tb w5 tb jb wm sv ((la : Int) + 1) := (t5.block tb (heap_lt TT4) (fun e => (nsv tb e).2 rfl)).trans TT4
    have TT6 : Tb (w5.setCell ⟨tb, 2, none⟩ (.slice (some ⟨gN, 0, none⟩) (l.length + 1) cN)) tb jb wm (.slice (some ⟨gN, 0, none⟩) (l.length + 1) cN) ((la : Int) + 1) := heap_setCell_same _ tb 2 _ _ _ TT5
    have u6 := Turns.cell w5 tb 2 (.slice (some ⟨gN, 0, none⟩) (l.length + 1) cN)
    have v36 : Turns (fun i => i = tb ∨ sv.ownBlock = some i) W3 (w5.setCell ⟨tb, 2, none⟩ (.slice (some ⟨gN, 0, none⟩) (l.length + 1) cN)) := ((u4.mono (fun _ _ e => Or.inl e)).trans t5 (fun _ _ e => Or.inr e)).trans u6 (fun _ _ e => Or.inl e)
    have r3 : W3.ownsRow 0 127 2 sv l.length (svC l) := own_on (own_on hr1 b2) bW3
    have hS3 : Svs W3 G tb wm sv l la := ((((hv.turns (Below.turns bW (fun _ => False)) (fun _ _ => id) (fun _ _ => ⟨id, id, id, fun _ _ => id⟩)).same q1.2).turns (Below.turns b2 (fun _ => False)) (fun _ _ => id) (fun _ _ => ⟨id, id, id, fun _ _ => id⟩)).turns (Below.turns bW3 (fun _ => False)) (fun _ _ => id) (fun _ _ => ⟨id, id, id, fun _ _ => id⟩))
    have hGl3 := T3.D.lt
    have hGw := h.D.lt
    have gH : ∀ i, w.heap.size ≤ i → ¬ G i := fun i hi r => by have := hGw i r; omega
    have nY : ∀ (i : Nat) (cs : Array Value) (t : Nat), W3.heap[i]? = some (.cells cs t) → t ≠ 104 → t ≠ 127 → ¬ (i = tb ∨ sv.ownBlock = some i) := fun i cs t hi h1 h2 e => by
      rcases e with rfl | e
      · have := T3.T; unfold Tb at this; rw [hi] at this; simp at this; exact h1 this.2
      · exact own_typeJ r3 hi h2 e
    have nM : ∀ (i n : Nat) (x : List (Nat × Nat)), Mp W3 i n x → ¬ (i = tb ∨ sv.ownBlock = some i) := fun i n x hi e => by
      rcases e with rfl | e
      · exact mp_cells hi T3.T rfl
      · exact own_mapJ r3 hi e
    have T6 := T3.move v36 (fun i hi e => e.elim (fun e => h.gt (e ▸ hi)) (fun e => (nsv i e).1 hi)) (nY jb _ _ T3.J (by decide) (by decide)) (nM bm _ _ T3.A) (nM wm _ _ T3.M) (fun p hp => nY p.2 _ _ (T3.V p hp).1 (by decide) (by decide)) (fun p hp => nY p.2 _ _ (T3.VA p hp).1 (by decide) (by decide)) TT6
    have S6 : ∀ s ∈ l, Sp (w5.setCell ⟨tb, 2, none⟩ (.slice (some ⟨gN, 0, none⟩) (l.length + 1) cN)) tb s := fun s hs => by
      have p := hS3.sp s hs
      exact p.turns v36 (nY _ _ _ p.h (by decide) (by decide)) (nY _ _ _ p.q (by decide) (by decide)) (nM _ _ _ p.M) (fun x hx => nY _ _ _ (p.V x hx).1 (by decide) (by decide))
    have P3 : Sp W3 tb ⟨la + 1, hb, q, hm, ns, m, f⟩ := ⟨hbh, hbx3, M3, T3.V⟩
    have P6 : Sp (w5.setCell ⟨tb, 2, none⟩ (.slice (some ⟨gN, 0, none⟩) (l.length + 1) cN)) tb ⟨la + 1, hb, q, hm, ns, m, f⟩ := P3.turns v36 (nY _ _ _ P3.h (by decide) (by decide)) (nY _ _ _ P3.q (by decide) (by decide)) (nM _ _ _ P3.M) (fun x hx => nY _ _ _ (P3.V x hx).1 (by decide) (by decide))
    have hwm := h.M.own.lt
    have hgN : ¬ G gN ∧ gN ≠ tb := by
      rcases hat5 with e | e
      · exact nsv gN e
      · have := heap_lt TT4
        exact ⟨gH gN (by omega), by omega⟩
    refine ⟨⟨_, ⟨la + 1, hb, q, hm, ns, m, f⟩, T6, ⟨?_, ?_, ?_, ?_, ?_, ?_⟩, rfl, rfl, rfl, rfl, fun b hb => ?_⟩, ?_⟩
    · rw [svC_snoc, List.length_append]
      exact own_turns ho5 u6 (fun b hb e => hgN.2 (by cases hb; exact e))
    · rw [List.pairwise_append]
      exact ⟨hv.ris, List.pairwise_singleton _ _, fun x hx y hy => by simp at hy; subst hy; have := hv.top x hx; simp only; omega⟩
    · intro s hs
      rcases List.mem_append.1 hs with hs | hs
      · have := hv.top s hs; omega
      · simp at hs; subst hs; exact Nat.le_refl _
    · intro b hb
      cases hb
      exact hgN.1
    · intro s hs
      rcases List.mem_append.1 hs with hs | hs
      · exact S6 s hs
      · simp at hs; subst hs; exact P6
    · intro s hs
      rcases List.mem_append.1 hs with hs | hs
      · exact hv.gs s hs
      · simp at hs; subst hs
        exact ⟨gH _ (by simp only; omega), gq, gH _ (by simp only; omega), by simp only; omega, h.gv⟩
    · cases hb
      exact hat5.imp id (fun e => by have : gN = W4.heap.size + 1 := e; show w.heap.size ≤ gN; omega)
    · refine (((((Below.turns bW (fun i => G i ∨ i = tb ∨ sv.ownBlock = some i)).trans q1.2 (fun _ _ r => Or.inl r)).trans (Below.turns b2 (fun _ => False)) (fun _ _ => False.elim)).trans (Below.turns bW3 (fun _ => False)) (fun _ _ => False.elim)).trans v36 (fun _ _ r => Or.inr r))
  have hSd : W4.drew.cell? ⟨q, 0, none⟩ = some (.pointer (some ⟨tb, 0, none⟩)) ∧ W4.drew.cell? ⟨tb, 3, none⟩ = some (.int .i64 ((la : Int) + 1)) := ⟨z4, d3⟩
  have hSa : ∀ o, (W4.drew.alloc o).cell? ⟨q, 0, none⟩ = some (.pointer (some ⟨tb, 0, none⟩)) ∧ (W4.drew.alloc o).cell? ⟨tb, 3, none⟩ = some (.int .i64 ((la : Int) + 1)) := fun o => ⟨(World.cell?_of_block (Below.heap_alloc W4.drew o q (heap_lt hbx4))).trans z4, (TA o).cells.c3⟩
  have d2d : W4.drew.cell? ⟨tb, 2, none⟩ = some sv := d2
  have d2a : ∀ o, (W4.drew.alloc o).cell? ⟨tb, 2, none⟩ = some sv := fun o => (TA o).cells.c2
  refine wp_region_held_drew (S := fun w' => w'.cell? ⟨q, 0, none⟩ = some (.pointer (some ⟨tb, 0, none⟩)) ∧ w'.cell? ⟨tb, 3, none⟩ = some (.int .i64 ((la : Int) + 1))) (by kernel_rfl) hSd (fun hHeld => ?_)
  refine wpAnyH_take (i := 0) (oi := ⟨some 31, .load 31 (.tmp 1), 31, "tx.go:81", #[], none⟩) (v := (.pointer (some ⟨tb, 0, none⟩))) rfl (by kernel_rfl) (by kernel_rfl) (by kernel_rfl) (fun _ _ _ h => h) (Or.inl ⟨by rfl, fun w' h' => by have e1 := h'.1; unfold execOp; go_simp⟩) hHeld ?_
  simp only [Act.put, List.setIfInBounds_toArray, List.set_cons_zero, List.set_cons_succ]
  refine wpAnyH_take (i := 1) (oi := ⟨some 32, .load 31 (.tmp 1), 31, "tx.go:81", #[], none⟩) (v := (.pointer (some ⟨tb, 0, none⟩))) rfl (by kernel_rfl) (by kernel_rfl) (by kernel_rfl) (fun _ _ _ h => h) (Or.inl ⟨by rfl, fun w' h' => by have e1 := h'.1; unfold execOp; go_simp⟩) hHeld ?_
  simp only [Act.put, List.setIfInBounds_toArray, List.set_cons_zero, List.set_cons_succ]
  refine wpAnyH_take (i := 2) (oi := ⟨some 33, .nilCheck (.tmp 32), 0, "tx.go:81", #[⟨1, .data⟩], none⟩) (v := (.pointer (some ⟨tb, 0, none⟩))) rfl (by kernel_rfl) (by kernel_rfl) (by kernel_rfl) (fun _ _ _ h => h) (Or.inl ⟨by rfl, fun _ _ => by rfl⟩) hHeld ?_
  simp only [Act.put, List.setIfInBounds_toArray, List.set_cons_zero, List.set_cons_succ]
  refine wpAnyH_take (i := 3) (oi := ⟨some 34, .fieldAddr 104 (.tmp 33) 2, 0, "tx.go:81", #[⟨2, .data⟩], none⟩) (v := (.pointer (some ⟨tb, 2, none⟩))) rfl (by kernel_rfl) (by kernel_rfl) (by kernel_rfl) (fun _ _ _ h => h) (Or.inl ⟨by rfl, fun _ _ => by rfl⟩) hHeld ?_
  simp only [Act.put, List.setIfInBounds_toArray, List.set_cons_zero, List.set_cons_succ]
  refine wpAnyH_take (i := 5) (oi := ⟨some 36, .load 31 (.tmp 1), 31, "tx.go:81", #[], none⟩) (v := (.pointer (some ⟨tb, 0, none⟩))) rfl (by kernel_rfl) (by kernel_rfl) (by kernel_rfl) (fun _ _ _ h => h) (Or.inl ⟨by rfl, fun w' h' => by have e1 := h'.1; unfold execOp; go_simp⟩) hHeld ?_
  simp only [Act.put, List.setIfInBounds_toArray, List.set_cons_zero, List.set_cons_succ]
  refine wpAnyH_take (i := 6) (oi := ⟨some 37, .nilCheck (.tmp 36), 0, "tx.go:81", #[⟨5, .data⟩], none⟩) (v := (.pointer (some ⟨tb, 0, none⟩))) rfl (by kernel_rfl) (by kernel_rfl) (by kernel_rfl) (fun _ _ _ h => h) (Or.inl ⟨by rfl, fun _ _ => by rfl⟩) hHeld ?_
  simp only [Act.put, List.setIfInBounds_toArray, List.set_cons_zero, List.set_cons_succ]
  refine wpAnyH_take (i := 7) (oi := ⟨some 38, .fieldAddr 104 (.tmp 37) 3, 0, "tx.go:81", #[⟨6, .data⟩], none⟩) (v := (.pointer (some ⟨tb, 3, none⟩))) rfl (by kernel_rfl) (by kernel_rfl) (by kernel_rfl) (fun _ _ _ h => h) (Or.inl ⟨by rfl, fun _ _ => by rfl⟩) hHeld ?_
  simp only [Act.put, List.setIfInBounds_toArray, List.set_cons_zero, List.set_cons_succ]
  refine wpAnyH_take (i := 8) (oi := ⟨some 39, .load 3 (.tmp 38), 3, "tx.go:81", #[⟨7, .data⟩], none⟩) (v := (.int .i64 ((la : Int) + 1))) rfl (by kernel_rfl) (by kernel_rfl) (by kernel_rfl) (fun _ _ _ h => h) (Or.inl ⟨by rfl, fun w' h' => by have e1 := h'.2; unfold execOp; go_simp⟩) hHeld ?_
  simp only [Act.put, List.setIfInBounds_toArray, List.set_cons_zero, List.set_cons_succ]
  refine wpAnyH_take (i := 9) (oi := ⟨some 40, .makeFunc (Fn.func 65) #[] #[.tmp 5, .tmp 1], 1, "tx.go:81", #[], none⟩) (v := (.func (Fn.func 65) #[] #[.pointer (some ⟨hb, 0, none⟩), .pointer (some ⟨q, 0, none⟩)])) rfl (by kernel_rfl) (by kernel_rfl) (by kernel_rfl) (fun _ _ _ h => h) (Or.inl ⟨by rfl, fun w' h' => by unfold execOp; go_simp⟩) hHeld ?_
  simp only [Act.put, List.setIfInBounds_toArray, List.set_cons_zero, List.set_cons_succ]
  refine wpAnyH_take (i := 10) (oi := ⟨some 41, .build 127 #[(0, .tmp 39), (1, .tmp 40)], 127, "tx.go:81", #[⟨8, .data⟩, ⟨9, .data⟩], none⟩) (v := (.agg #[.int .i64 ((la : Int) + 1), .func (Fn.func 65) #[] #[.pointer (some ⟨hb, 0, none⟩), .pointer (some ⟨q, 0, none⟩)]])) rfl (by kernel_rfl) (by kernel_rfl) (by kernel_rfl) (fun _ _ _ h => h) (Or.inl ⟨by rfl, fun w' h' => by unfold execOp; go_simp⟩) hHeld ?_
  simp only [Act.put, List.setIfInBounds_toArray, List.set_cons_zero, List.set_cons_succ]
  refine wpAnyH_ready (rs := [4, 11]) (by kernel_rfl) (by simp) ?_
  refine AllReadyH.cons (o := ⟨some 35, .load 102 (.tmp 34), 102, "tx.go:81", #[⟨3, .data⟩], none⟩) rfl (fun KK hK => ?_) (AllReadyH.cons (o := ⟨some 42, .buildSlice 102 1 #[(0, .tmp 41)], 102, "tx.go:81", #[⟨10, .data⟩], none⟩) rfl (fun KK hK => ?_) AllReadyH.nil)
  · go_simp
    refine hK.out _ _ hSd (fun hHeld => ?_)
    clear hK KK
    try simp only [Act.put, List.setIfInBounds_toArray, List.set_cons_zero, List.set_cons_succ]
    refine wpAnyH_ready (rs := [11]) (by kernel_rfl) (by simp) ?_
    refine AllReadyH.cons (o := ⟨some 42, .buildSlice 102 1 #[(0, .tmp 41)], 102, "tx.go:81", #[⟨10, .data⟩], none⟩) rfl (fun KK hK => ?_) AllReadyH.nil
    go_simp
    refine hK.out _ _ (hSa _) (fun hHeld => ?_)
    clear hK KK
    try simp only [Act.put, List.setIfInBounds_toArray, List.set_cons_zero, List.set_cons_succ]
    refine wpAnyH_ready (rs := [12]) (by kernel_rfl) (by simp) ?_
    refine AllReadyH.cons (o := ⟨some 43, .call ⟨.builtin .append, #[.tmp 35, .tmp 42], #[102, 102]⟩, 102, "tx.go:81", #[⟨4, .data⟩, ⟨11, .data⟩], none⟩) rfl (fun KK hK => ?_) AllReadyH.nil
    refine step_append_lies _ rfl _ _ 102 rfl 0 127 i0 (.agg #[.int .i64 0, .nilFunc]) 2 16 Tryz.underlying102 hi0 hz0 hz1 hz2 rfl (by decide) sv l.length (svC l) rfl (hr4d.alloc _) ⟨W4.heap.size, 0, none⟩ 1 1 [.int .i64 ((la : Int) + 1), .func (Fn.func 65) #[] #[.pointer (some ⟨hb, 0, none⟩), .pointer (some ⟨q, 0, none⟩)]] rfl rfl (cell_two_new W4.drew _ _ _) (by intro u hu; simp at hu; rcases hu with rfl | rfl <;> rfl) (by decide) (by unfold maxLen; omega) (by omega) (by omega) _ rfl ?_
    intro gN cN w5 ho5 hg5 hat5 hlt5
    have TT5 : Tb w5 tb jb wm sv ((la : Int) + 1) := (hg5.block tb (heap_lt (TA _)) (fun e => (nsv tb e.symm).2 rfl)).trans (TA _)
    have e2 := TT5.cells.c2
    have ef := TT5.cells.fz 2
    have hbx5 := ((hg5.block q (by simp; have := heap_lt hbx4; omega) (fun e => nsq e.symm)).trans (Below.heap_alloc W4.drew _ q (heap_lt hbx4))).trans hbx4
    have hS5 : w5.cell? ⟨q, 0, none⟩ = some (.pointer (some ⟨tb, 0, none⟩)) ∧ w5.cell? ⟨tb, 3, none⟩ = some (.int .i64 ((la : Int) + 1)) := ⟨by simp [World.cell?, hbx5], TT5.cells.c3⟩
    have hS6 : ∀ v, (w5.setCell ⟨tb, 2, none⟩ v).cell? ⟨q, 0, none⟩ = some (.pointer (some ⟨tb, 0, none⟩)) ∧ (w5.setCell ⟨tb, 2, none⟩ v).cell? ⟨tb, 3, none⟩ = some (.int .i64 ((la : Int) + 1)) := fun v => ⟨(World.cell?_of_block ((Turns.cell w5 tb 2 v).block q (heap_lt hbx5) hq4)).trans (by simp [World.cell?, hbx5]), by
      have := heap_setCell_same _ tb 2 _ _ v TT5
      simp [World.cell?, this]⟩
    refine hK.out _ _ hS5 (fun hHeld => ?_)
    clear hK KK
    try simp only [Act.put, List.setIfInBounds_toArray, List.set_cons_zero, List.set_cons_succ]
    refine wpAnyH_ready (rs := [13]) (by kernel_rfl) (by simp) ?_
    refine AllReadyH.cons (o := ⟨some 44, .nilCheck (.tmp 31), 0, "tx.go:81", #[⟨0, .data⟩, ⟨0, .phase⟩, ⟨1, .phase⟩, ⟨2, .phase⟩, ⟨3, .phase⟩, ⟨4, .phase⟩, ⟨5, .phase⟩, ⟨6, .phase⟩, ⟨7, .phase⟩, ⟨8, .phase⟩, ⟨9, .phase⟩, ⟨10, .phase⟩, ⟨11, .phase⟩, ⟨12, .phase⟩], none⟩) rfl (fun KK hK => ?_) AllReadyH.nil
    go_simp
    refine hK.out _ _ hS5 (fun hHeld => ?_)
    clear hK KK
    try simp only [Act.put, List.setIfInBounds_toArray, List.set_cons_zero, List.set_cons_succ]
    refine wpAnyH_ready (rs := [14]) (by kernel_rfl) (by simp) ?_
    refine AllReadyH.cons (o := ⟨some 45, .fieldAddr 104 (.tmp 44) 2, 0, "tx.go:81", #[⟨13, .data⟩, ⟨0, .phase⟩, ⟨1, .phase⟩, ⟨2, .phase⟩, ⟨3, .phase⟩, ⟨4, .phase⟩, ⟨5, .phase⟩, ⟨6, .phase⟩, ⟨7, .phase⟩, ⟨8, .phase⟩, ⟨9, .phase⟩, ⟨10, .phase⟩, ⟨11, .phase⟩, ⟨12, .phase⟩], none⟩) rfl (fun KK hK => ?_) AllReadyH.nil
    go_simp
    refine hK.out _ _ hS5 (fun hHeld => ?_)
    clear hK KK
    try simp only [Act.put, List.setIfInBounds_toArray, List.set_cons_zero, List.set_cons_succ]
    refine wpAnyH_ready (rs := [15]) (by kernel_rfl) (by simp) ?_
    refine AllReadyH.cons (o := ⟨none, .store 102 (.tmp 45) (.tmp 43), 0, "tx.go:81", #[⟨14, .data⟩, ⟨12, .data⟩, ⟨12, .chain⟩, ⟨0, .phase⟩, ⟨1, .phase⟩, ⟨2, .phase⟩, ⟨3, .phase⟩, ⟨4, .phase⟩, ⟨5, .phase⟩, ⟨6, .phase⟩, ⟨7, .phase⟩, ⟨8, .phase⟩, ⟨9, .phase⟩, ⟨10, .phase⟩, ⟨11, .phase⟩, ⟨12, .phase⟩], none⟩) rfl (fun KK hK => ?_) AllReadyH.nil
    go_simp
    refine hK.out _ _ (hS6 _) (fun hHeld => ?_)
    clear hK KK
    try simp only [Act.put, List.setIfInBounds_toArray, List.set_cons_zero, List.set_cons_succ]
    refine wpAnyH_done (by kernel_rfl) ?_ _
    clear hHeld
    have R6 := HE.out gN cN w5 ho5 hg5 hat5
    have z6 := (hS6 (.slice (some ⟨gN, 0, none⟩) (l.length + 1) cN)).1
    have z7 := (hS6 (.slice (some ⟨gN, 0, none⟩) (l.length + 1) cN)).2
    obtain ⟨W6, hW6⟩ : ∃ W6, w5.setCell ⟨tb, 2, none⟩ (.slice (some ⟨gN, 0, none⟩) (l.length + 1) cN) = W6 := ⟨_, rfl⟩
    rw [hW6] at R6 z6 z7
    try rw [hW6]
    clear hS5 hS6 hbx5 TT5 e2 ef ho5 hg5 hat5 hlt5
    go_wp2_with fail
    refine bodyPost_ret (results_tmp2 rfl _ _ _) rfl ?_
    exact ⟨rfl, R6⟩
  · go_simp
    refine hK.out _ _ (hSa _) (fun hHeld => ?_)
    clear hK KK
    try simp only [Act.put, List.setIfInBounds_toArray, List.set_cons_zero, List.set_cons_succ]
    refine wpAnyH_ready (rs := [4]) (by kernel_rfl) (by simp) ?_
    refine AllReadyH.cons (o := ⟨some 35, .load 102 (.tmp 34), 102, "tx.go:81", #[⟨3, .data⟩], none⟩) rfl (fun KK hK => ?_) AllReadyH.nil
    go_simp
    refine hK.out _ _ (hSa _) (fun hHeld => ?_)
    clear hK KK
    try simp only [Act.put, List.setIfInBounds_toArray, List.set_cons_zero, List.set_cons_succ]
    refine wpAnyH_ready (rs := [12]) (by kernel_rfl) (by simp) ?_
    refine AllReadyH.cons (o := ⟨some 43, .call ⟨.builtin .append, #[.tmp 35, .tmp 42], #[102, 102]⟩, 102, "tx.go:81", #[⟨4, .data⟩, ⟨11, .data⟩], none⟩) rfl (fun KK hK => ?_) AllReadyH.nil
    refine step_append_lies _ rfl _ _ 102 rfl 0 127 i0 (.agg #[.int .i64 0, .nilFunc]) 2 16 Tryz.underlying102 hi0 hz0 hz1 hz2 rfl (by decide) sv l.length (svC l) rfl (hr4d.alloc _) ⟨W4.heap.size, 0, none⟩ 1 1 [.int .i64 ((la : Int) + 1), .func (Fn.func 65) #[] #[.pointer (some ⟨hb, 0, none⟩), .pointer (some ⟨q, 0, none⟩)]] rfl rfl (cell_two_new W4.drew _ _ _) (by intro u hu; simp at hu; rcases hu with rfl | rfl <;> rfl) (by decide) (by unfold maxLen; omega) (by omega) (by omega) _ rfl ?_
    intro gN cN w5 ho5 hg5 hat5 hlt5
    have TT5 : Tb w5 tb jb wm sv ((la : Int) + 1) := (hg5.block tb (heap_lt (TA _)) (fun e => (nsv tb e.symm).2 rfl)).trans (TA _)
    have e2 := TT5.cells.c2
    have ef := TT5.cells.fz 2
    have hbx5 := ((hg5.block q (by simp; have := heap_lt hbx4; omega) (fun e => nsq e.symm)).trans (Below.heap_alloc W4.drew _ q (heap_lt hbx4))).trans hbx4
    have hS5 : w5.cell? ⟨q, 0, none⟩ = some (.pointer (some ⟨tb, 0, none⟩)) ∧ w5.cell? ⟨tb, 3, none⟩ = some (.int .i64 ((la : Int) + 1)) := ⟨by simp [World.cell?, hbx5], TT5.cells.c3⟩
    have hS6 : ∀ v, (w5.setCell ⟨tb, 2, none⟩ v).cell? ⟨q, 0, none⟩ = some (.pointer (some ⟨tb, 0, none⟩)) ∧ (w5.setCell ⟨tb, 2, none⟩ v).cell? ⟨tb, 3, none⟩ = some (.int .i64 ((la : Int) + 1)) := fun v => ⟨(World.cell?_of_block ((Turns.cell w5 tb 2 v).block q (heap_lt hbx5) hq4)).trans (by simp [World.cell?, hbx5]), by
      have := heap_setCell_same _ tb 2 _ _ v TT5
      simp [World.cell?, this]⟩
    refine hK.out _ _ hS5 (fun hHeld => ?_)
    clear hK KK
    try simp only [Act.put, List.setIfInBounds_toArray, List.set_cons_zero, List.set_cons_succ]
    refine wpAnyH_ready (rs := [13]) (by kernel_rfl) (by simp) ?_
    refine AllReadyH.cons (o := ⟨some 44, .nilCheck (.tmp 31), 0, "tx.go:81", #[⟨0, .data⟩, ⟨0, .phase⟩, ⟨1, .phase⟩, ⟨2, .phase⟩, ⟨3, .phase⟩, ⟨4, .phase⟩, ⟨5, .phase⟩, ⟨6, .phase⟩, ⟨7, .phase⟩, ⟨8, .phase⟩, ⟨9, .phase⟩, ⟨10, .phase⟩, ⟨11, .phase⟩, ⟨12, .phase⟩], none⟩) rfl (fun KK hK => ?_) AllReadyH.nil
    go_simp
    refine hK.out _ _ hS5 (fun hHeld => ?_)
    clear hK KK
    try simp only [Act.put, List.setIfInBounds_toArray, List.set_cons_zero, List.set_cons_succ]
    refine wpAnyH_ready (rs := [14]) (by kernel_rfl) (by simp) ?_
    refine AllReadyH.cons (o := ⟨some 45, .fieldAddr 104 (.tmp 44) 2, 0, "tx.go:81", #[⟨13, .data⟩, ⟨0, .phase⟩, ⟨1, .phase⟩, ⟨2, .phase⟩, ⟨3, .phase⟩, ⟨4, .phase⟩, ⟨5, .phase⟩, ⟨6, .phase⟩, ⟨7, .phase⟩, ⟨8, .phase⟩, ⟨9, .phase⟩, ⟨10, .phase⟩, ⟨11, .phase⟩, ⟨12, .phase⟩], none⟩) rfl (fun KK hK => ?_) AllReadyH.nil
    go_simp
    refine hK.out _ _ hS5 (fun hHeld => ?_)
    clear hK KK
    try simp only [Act.put, List.setIfInBounds_toArray, List.set_cons_zero, List.set_cons_succ]
    refine wpAnyH_ready (rs := [15]) (by kernel_rfl) (by simp) ?_
    refine AllReadyH.cons (o := ⟨none, .store 102 (.tmp 45) (.tmp 43), 0, "tx.go:81", #[⟨14, .data⟩, ⟨12, .data⟩, ⟨12, .chain⟩, ⟨0, .phase⟩, ⟨1, .phase⟩, ⟨2, .phase⟩, ⟨3, .phase⟩, ⟨4, .phase⟩, ⟨5, .phase⟩, ⟨6, .phase⟩, ⟨7, .phase⟩, ⟨8, .phase⟩, ⟨9, .phase⟩, ⟨10, .phase⟩, ⟨11, .phase⟩, ⟨12, .phase⟩], none⟩) rfl (fun KK hK => ?_) AllReadyH.nil
    go_simp
    refine hK.out _ _ (hS6 _) (fun hHeld => ?_)
    clear hK KK
    try simp only [Act.put, List.setIfInBounds_toArray, List.set_cons_zero, List.set_cons_succ]
    refine wpAnyH_done (by kernel_rfl) ?_ _
    clear hHeld
    have R6 := HE.out gN cN w5 ho5 hg5 hat5
    have z6 := (hS6 (.slice (some ⟨gN, 0, none⟩) (l.length + 1) cN)).1
    have z7 := (hS6 (.slice (some ⟨gN, 0, none⟩) (l.length + 1) cN)).2
    obtain ⟨W6, hW6⟩ : ∃ W6, w5.setCell ⟨tb, 2, none⟩ (.slice (some ⟨gN, 0, none⟩) (l.length + 1) cN) = W6 := ⟨_, rfl⟩
    rw [hW6] at R6 z6 z7
    try rw [hW6]
    clear hS5 hS6 hbx5 TT5 e2 ef ho5 hg5 hat5 hlt5
    go_wp2_with fail
    refine bodyPost_ret (results_tmp2 rfl _ _ _) rfl ?_
    exact ⟨rfl, R6⟩
end Go.Proofs.YtnmdnglbpkpfdaaGreatDoor

/- cmp.Compare at numbers; slices.BinarySearchFunc over savepoints, by their contracts. -/
namespace Go.Proofs.YtnmdnglbpkpfdaaGreatDoor
open Go.RowKit Go.Maps
set_option maxRecDepth 100000

/-- How two numbers compare. -/
def cmpI (x y : Int) : Int := if x < y then -1 else if y < x then 1 else 0
theorem compare_any (x y : Int) (w : World) : Calls Tryz.prog 68 #[.int .i64 x, .int .i64 y] w fun e w' => e = .returned (.int .i64 (cmpI x y)) ∧ w' = w := by
  have hN : ∀ z : Int, Calls Tryz.prog 101 #[.int .i64 z] w fun e w' => e = .returned (.bool false) ∧ w' = w := fun z => by
    go_enter Tryz.func101, Tryz.ntmps101
    go_wp2
    go_ret
    simp
  unfold cmpI
  by_cases h1 : x < y
  · rw [if_pos h1]
    go_enter Tryz.func68, Tryz.ntmps68
    go_wp2_with (go_at_call 101; refine (hN _).mono ?_; rintro e wn ⟨rfl, hwn⟩; subst wn)
    go_ret
    exact ⟨rfl, rfl⟩
  · rw [if_neg h1]
    by_cases h2 : y < x
    · rw [if_pos h2]
      go_enter Tryz.func68, Tryz.ntmps68
      go_wp2_with (go_at_call 101; refine (hN _).mono ?_; rintro e wn ⟨rfl, hwn⟩; subst wn)
      go_ret
      exact ⟨rfl, rfl⟩
    · rw [if_neg h2]
      go_enter Tryz.func68, Tryz.ntmps68
      go_wp2_with (go_at_call 101; refine (hN _).mono ?_; rintro e wn ⟨rfl, hwn⟩; subst wn)
      go_ret
      exact ⟨rfl, rfl⟩
theorem back1_any (x y : Int) (fv : Value) (w : World) : Calls Tryz.prog 67 #[.agg #[.int .i64 x, fv], .int .i64 y] w fun e w' => e = .returned (.int .i64 (cmpI x y)) ∧ Below w.heap.size w w' := by
  go_enter Tryz.func67, Tryz.ntmps67
  go_wp2_with (go_at_call 68; refine (compare_any _ _ _).mono ?_; rintro e wn ⟨rfl, hwn⟩; subst wn)
  go_ret
  exact ⟨rfl, (Below.refl _ w).alloc (Nat.le_refl _) _⟩
theorem svC_at : ∀ (l : List SvI) (i : Nat) (s : SvI), l[i]? = some s → (svC l)[i * 2]? = s.cells[0]? ∧ (svC l)[i * 2 + 1]? = s.cells[1]?
  | [], i, s, h => by simp at h
  | x :: l, 0, s, h => by simp at h; subst h; simp [svC, SvI.cells]
  | x :: l, i + 1, s, h => by
    have := svC_at l i s (by simpa using h)
    rw [show (i + 1) * 2 = i * 2 + 1 + 1 by omega]
    simpa [svC, SvI.cells] using this
theorem sv_get {w : World} {base : Nat} {sv : Value} {l : List SvI} (h : w.ownsRow base 127 2 sv l.length (svC l)) {i : Nat} (hi : i < l.length) : ∃ g c, sv = .slice (some ⟨g, 0, none⟩) l.length c ∧ w.cell? ⟨g, i * 2, none⟩ = some (.int .i64 (l[i].mark : Nat)) ∧ w.cell? ⟨g, i * 2 + 1, none⟩ = some (.func (Fn.func 65) #[] #[.pointer (some ⟨l[i].hb, 0, none⟩), .pointer (some ⟨l[i].q, 0, none⟩)]) := by
  rcases h.2 with ⟨_, h0⟩ | ⟨g, cap, cur, hv, _, hg, h1, h2, h3, h4⟩
  · omega
  · obtain ⟨e1, e2⟩ := svC_at l i l[i] (by simp [hi])
    refine ⟨g, cap, hv, ?_, ?_⟩
    · simp only [World.cell?, hg]
      rw [← h4, List.getElem?_take, if_pos (by omega)] at e1
      simpa [SvI.cells] using e1
    · simp only [World.cell?, hg]
      rw [← h4, List.getElem?_take, if_pos (by omega)] at e2
      simpa [SvI.cells] using e2
theorem below_at {l : List SvI} (h : l.Pairwise (fun a b => a.mark < b.mark)) {i : Nat} (hi : i < l.length) : ∀ x ∈ l.take (i + 1), x.mark ≤ l[i].mark := fun x hx => by
  obtain ⟨j, hj, rfl⟩ := List.mem_iff_getElem.1 hx
  simp only [List.length_take] at hj
  rw [List.getElem_take]
  rcases Nat.lt_or_ge j i with q | q
  · exact Nat.le_of_lt (List.pairwise_iff_getElem.1 h j i _ hi q)
  · obtain rfl : j = i := by omega
    exact Nat.le_refl _
theorem above_at {l : List SvI} (h : l.Pairwise (fun a b => a.mark < b.mark)) {i : Nat} (hi : i < l.length) : ∀ x ∈ l.drop i, l[i].mark ≤ x.mark := fun x hx => by
  obtain ⟨j, hj, rfl⟩ := List.mem_iff_getElem.1 hx
  simp only [List.length_drop] at hj
  rw [List.getElem_drop]
  rcases Nat.eq_zero_or_pos j with q | q
  · subst q; exact Nat.le_refl _
  · exact Nat.le_of_lt (List.pairwise_iff_getElem.1 h i (i + j) hi (by omega) (by omega))
/-- Is that mark at that place? -/
def isAt (l : List SvI) (i : Nat) (t : Int) : Bool := match l[i]? with | some s => decide ((s.mark : Int) = t) | none => false
/-- Where a mark stands, or should stand. -/
structure Bs (l : List SvI) (t : Int) (i : Nat) : Prop where
  le : i ≤ l.length
  lo : ∀ x ∈ l.take i, (x.mark : Int) < t
  hi : ∀ x ∈ l.drop i, t ≤ (x.mark : Int)
set_option maxHeartbeats 2000000 in
theorem bsearch_any (l : List SvI) (sv : Value) (t : Int) (w : World) (hrow : w.ownsRow 0 127 2 sv l.length (svC l)) (hl : l.length ≤ 1000000) (hris : l.Pairwise (fun a b => a.mark < b.mark)) :
    Calls Tryz.prog 66 #[sv, .int .i64 t, .func (Fn.func 67) #[] #[]] w fun e w' => ∃ i : Nat, e = .returned (.tuple #[.int .i64 i, .bool (isAt l i t)]) ∧ Bs l t i ∧ Below w.heap.size w w' := by
  obtain ⟨ao, c, rfl⟩ := row_slice hrow
  obtain ⟨n, hn⟩ : ∃ n, l.length = n := ⟨_, rfl⟩
  have HN : Hid (l.length = n) := hn
  have hni : (n : Int) ≤ 1000000 := by omega
  rw [hn]
  clear hn
  go_enter Tryz.func66, Tryz.ntmps66
  go_wp2_with fail
  go_loopw [9, 10] (fun i j wr => ∃ a b : Nat, a ≤ b ∧ b ≤ n ∧ i = .int .i64 a ∧ j = .int .i64 b ∧ (∀ x ∈ l.take a, (x.mark : Int) < t) ∧ (∀ x ∈ l.drop b, t ≤ (x.mark : Int)) ∧ Below w.heap.size w wr) (fun i j _ => (intOf j - intOf i).toNat)
  case atStart => exact ⟨0, n, Nat.zero_le _, Nat.le_refl _, rfl, rfl, by simp, by rw [← HN.out]; simp, Below.refl _ _⟩
  case round =>
    obtain ⟨a, b, hab, hbn, rfl, rfl, hlo, hhi, hB⟩ := hrel
    by_cases hlt : a < b
    · have hai : (a : Int) < b := by omega
      obtain ⟨h, hh⟩ : ∃ h, (a + b) / 2 = h := ⟨_, rfl⟩
      have hhl : h < l.length := by rw [HN.out]; omega
      obtain ⟨g, cc, hv, x0, x1⟩ := sv_get (own_on hrow hB) hhl
      go_wp2_with fail
      refine (back1_any _ _ _ _).mono ?_
      rintro e w2 ⟨rfl, b2⟩
      have B2 := hB.trans (b2.mono hB.size)
      by_cases hm : (l[h].mark : Int) < t
      · have hc : cmpI (l[h].mark : Int) t = -1 := by unfold cmpI; rw [if_pos hm]
        rw [hc]
        have hlo2 : ∀ x ∈ l.take (h + 1), (x.mark : Int) < t := fun x hx => by
          have := below_at hris hhl x hx
          omega
        clear x0 x1 hlo hm hc
        go_wp2_with fail
        go_roundw
        case rel => exact ⟨h + 1, b, by omega, hbn, by congr 1; omega, rfl, hlo2, hhi, B2⟩
        case measure => simp [intOf]; omega
      · have hc : ¬ cmpI (l[h].mark : Int) t < 0 := by unfold cmpI; rw [if_neg hm]; split <;> omega
        obtain ⟨cv, hcv⟩ : ∃ cv, cmpI (l[h].mark : Int) t = cv := ⟨_, rfl⟩
        rw [hcv] at hc ⊢
        have hhi2 : ∀ x ∈ l.drop h, t ≤ (x.mark : Int) := fun x hx => by
          have := above_at hris hhl x hx
          omega
        clear x0 x1 hhi hm hcv
        go_wp2_with fail
        go_roundw
        case rel => exact ⟨a, h, by omega, by omega, rfl, by congr 1; omega, hlo, hhi2, B2⟩
        case measure => simp [intOf]; omega
    · have hai : ¬ (a : Int) < b := by omega
      obtain rfl : a = b := by omega
      have HR : Hid (Bs l t a) := ⟨by rw [HN.out]; exact hbn, hlo, hhi⟩
      clear hlo hhi
      by_cases ha : a < n
      · have hani : (a : Int) < n := by omega
        have hal : a < l.length := by rw [HN.out]; exact ha
        obtain ⟨g, cc, hv, x0, x1⟩ := sv_get (own_on hrow hB) hal
        have hia : isAt l a t = decide ((l[a].mark : Int) = t) := by
          unfold isAt
          rw [List.getElem?_eq_getElem hal]
        have hce : decide (cmpI (l[a].mark : Int) t = 0) = isAt l a t := by
          rw [hia]
          apply decide_eq_decide.2
          unfold cmpI
          constructor
          · intro q
            split at q
            · omega
            · split at q <;> omega
          · intro q
            rw [if_neg (by omega), if_neg (by omega)]
        have HCE : Hid (decide (cmpI (l[a].mark : Int) t = 0) = isAt l a t) := hce
        clear hce hia
        go_wp2_with (go_at_call 67; refine (back1_any _ _ _ _).mono ?_; rintro e w2 ⟨rfl, b2⟩)
        refine bodyPost_ret (results_tmp2 rfl _ _ _) rfl ?_
        refine ⟨a, ?_, HR.out, hB.trans (b2.mono hB.size)⟩
        rw [← HCE.out]
        rfl
      · have hani : ¬ (a : Int) < n := by omega
        have hia : isAt l a t = false := by
          unfold isAt
          rw [List.getElem?_eq_none (by rw [HN.out]; omega)]
        have HIA : Hid (isAt l a t = false) := hia
        clear hia
        go_wp2_with fail
        refine bodyPost_ret (results_tmp2 rfl _ _ _) rfl ?_
        refine ⟨a, ?_, HR.out, hB⟩
        rw [HIA.out]
        rfl
end Go.Proofs.YtnmdnglbpkpfdaaGreatDoor

/- slices.Delete of the last savepoints, by its contract. -/
namespace Go.Proofs.YtnmdnglbpkpfdaaGreatDoor
open Go.RowKit Go.Maps
set_option maxRecDepth 100000

theorem sv_zero (w : World) : (zeroValue 127).run Tryz.prog w = .ok (.agg #[.int .i64 0, .nilFunc]) w := by kernel_rfl
theorem run_append_none (w : World) (ty : TypeId) (a : Addr) (n cap : Nat) (x : Option Addr) (c : Nat) (h : n ≤ cap) :
    (Builtin.append_ #[102, 102] ty #[.slice (some a) n cap, .slice x 0 c]).run Tryz.prog w = .ok (.slice (some a) n cap) w := by
  obtain ⟨i0, hi0, hz0, hz1, hz2⟩ := info_parts Tryz.infoSave
  have hl : ∀ b : Addr, (loadCells b 0).run Tryz.prog w = .ok #[] w := fun _ => rfl
  have hsz : (sizeOf 127).run Tryz.prog w = .ok 2 w := by kernel_rfl
  cases x with
  | none => simp [Builtin.append_, run_underlying Tryz.underlying102, hsz, Builtin.lenOf, Builtin.firstCells, h, storeCells]
  | some b => simp [Builtin.append_, run_underlying Tryz.underlying102, hsz, Builtin.lenOf, Builtin.firstCells, h, hl, storeCells]
theorem step_append_none {ops : Array Oper} {o : Oper} {a : Act} {w : World} {C : Act → World → Prop} {Q : Exit → Act → World → Prop} {E : Prop} (hgd : o.guard = none) (s x : Operand) (ho : o.op = .call { callee := .builtin .append, args := #[s, x], argTypes := #[102, 102] })
    (ad : Addr) (n cap : Nat) (xo : Option Addr) (c : Nat) (hs : a.eval s = .slice (some ad) n cap) (hx : a.eval x = .slice xo 0 c) (h : n ≤ cap) (hK : C (a.put o.dst (.slice (some ad) n cap)) w) :
    if Region.wanted o (yielded ops a.tmps) = true then Oper.wp Tryz.prog o a w C Q else E := by
  have hw : Region.wanted o (yielded ops a.tmps) = true := by simp [Region.wanted, hgd]
  rw [if_pos hw]
  have hrun := run_append_none w o.type ad n cap xo c h
  unfold Oper.wp execOp
  simp only [ho, resolve, invoke, builtin, Sem.run_bind, Sem.run_pure, Result.andThen_ok, List.map_toArray, List.map_cons, List.map_nil, hs, hx, hrun]
  exact hK

/-- Zeros of n savepoints. -/
def svZ (n : Nat) : List Value := (Builtin.zeroCells #[.int .i64 0, .nilFunc] n).toList
theorem svZ_len (n : Nat) : (svZ n).length = n * 2 := by simp [svZ, Builtin.zeroCells]
theorem svZ_one (n : Nat) : ∀ v ∈ svZ n, v.oneCell' = true := by
  intro v hv
  simp [svZ, Builtin.zeroCells] at hv
  obtain ⟨i, _, rfl⟩ := hv
  rcases Nat.mod_two_eq_zero_or_one i with h | h <;> rw [h] <;> rfl
theorem run_clear_sv (w : World) (ty : TypeId) (b o n c : Nat) (hn : 0 < n) (hc : ∀ j, j < n * 2 → (w.cell? ⟨b, o + j, none⟩).isSome = true) (hf : ∀ j, j < n * 2 → w.frozen? ⟨b, o + j, none⟩ = false) :
    (Builtin.clear_ #[102] ty #[.slice (some ⟨b, o, none⟩) n c]).run Tryz.prog w = .ok (.tuple #[]) (w.setCells b o (svZ n)) := by
  have hst := run_storeCells_cells (P := Tryz.prog) b o (svZ n) 0 w (by rw [svZ_len]; simpa using hc) (by rw [svZ_len]; simpa using hf) (svZ_one n)
  simp only [Nat.add_zero] at hst
  obtain ⟨m, rfl⟩ : ∃ m, n = m + 1 := ⟨n - 1, by omega⟩
  have hz : (Builtin.zeroCells (Value.agg #[.int .i64 0, .nilFunc]).cells (m + 1)).toList = svZ (m + 1) := rfl
  simp [Builtin.clear_, run_underlying Tryz.underlying102, hz, hst]
theorem setCells_heap {g : Nat} {T : TypeId} : ∀ (vs : List Value) (o : Nat) (w : World) (cur : Array Value), w.heap[g]? = some (.cells cur T (0, 0)) → ∃ cur', (w.setCells g o vs).heap[g]? = some (.cells cur' T (0, 0)) ∧ cur'.size = cur.size ∧ ∀ j, j < o → cur'[j]? = cur[j]?
  | [], o, w, cur, h => ⟨cur, h, rfl, fun _ _ => rfl⟩
  | v :: vs, o, w, cur, h => by
    obtain ⟨cur', h1, h2, h3⟩ := setCells_heap vs (o + 1) (w.setCell ⟨g, o, none⟩ v) _ (heap_setCell_same w g o _ _ v h)
    refine ⟨cur', h1, by rw [h2]; simp, fun j hj => ?_⟩
    rw [h3 j (by omega), Array.getElem?_setIfInBounds_ne (by omega)]
theorem Turns.setCells (g : Nat) : ∀ (vs : List Value) (o : Nat) (w : World), Turns (fun i => i = g) w (w.setCells g o vs)
  | [], _, w => Turns.refl _ w
  | v :: vs, o, w => (Turns.cell w g o v).trans (Turns.setCells g vs (o + 1) (w.setCell ⟨g, o, none⟩ v)) (fun _ _ h => h)
theorem svC_take (l : List SvI) : ∀ a : Nat, (svC l).take (a * 2) = svC (l.take a) := by
  induction l with
  | nil => intro a; simp [svC]
  | cons s l ih =>
    intro a
    cases a with
    | zero => simp [svC]
    | succ a =>
      have := ih a
      rw [show (a + 1) * 2 = a * 2 + 1 + 1 by omega]
      simp only [svC, List.flatMap_cons, SvI.cells, List.take_succ_cons, List.cons_append, List.nil_append] at *
      rw [this]
set_option maxHeartbeats 2000000 in
theorem delete_any (l : List SvI) (sv : Value) (a : Nat) (w : World) (hrow : w.ownsRow 0 127 2 sv l.length (svC l)) (hl : l.length ≤ 1000000) (ha : a ≤ l.length) (h1 : 0 < l.length) :
    Calls Tryz.prog 69 #[sv, .int .i64 a, .int .i64 (l.length : Nat)] w fun e w' => ∃ sv', e = .returned sv' ∧ w'.ownsRow 0 127 2 sv' a (svC (l.take a)) ∧ sv'.ownBlock = sv.ownBlock ∧ Turns (fun i => sv.ownBlock = some i) w w' := by
  rcases hrow.2 with ⟨_, h0⟩ | ⟨g, cap, cur, rfl, _, hg, h2, h3, h4, h5⟩
  · omega
  obtain ⟨n, hn⟩ : ∃ n, l.length = n := ⟨_, rfl⟩
  have HN : Hid (l.length = n) := hn
  rw [hn] at ha h1 hl h2 h5 ⊢
  clear hn
  have hni : (n : Int) ≤ 1000000 := by omega
  have hci : (n : Int) ≤ cap := by omega
  have hcm : (cap : Int) ≤ 9223372036854775807 := by unfold maxLen at h3; omega
  by_cases he : a = n
  · subst he
    have HR : Hid (w.ownsRow 0 127 2 (.slice (some ⟨g, 0, none⟩) a cap) a (svC (l.take a))) := by
      have e : l.take a = l := List.take_of_length_le (by rw [HN.out]; exact Nat.le_refl _)
      show w.ownsRow _ _ _ _ _ _
      rw [e]
      have h := hrow
      rw [HN.out] at h
      exact h
    clear hrow hg h5
    go_enter Tryz.func69, Tryz.ntmps69
    go_wp2_with fail
    go_ret
    exact ⟨_, rfl, HR.out, rfl, Turns.refl _ w⟩
  · have hai : (a : Int) < n := by omega
    have hne : ¬ (a : Int) = n := by omega
    have hac : a ≤ cap := by omega
    have hacn : ¬ cap = a := by omega
    have hacm : ¬ n = a := by omega
    have hcl : ∀ (ty : TypeId) (c : Nat), (Builtin.clear_ #[102] ty #[.slice (some ⟨g, a * 2, none⟩) (n - a) c]).run Tryz.prog w.drew = .ok (.tuple #[]) (w.drew.setCells g (a * 2) (svZ (n - a))) := fun ty c => run_clear_sv w.drew ty g (a * 2) (n - a) c (by omega) (fun j hj => by
        have hgk : w.drew.heap[g]? = some (.cells cur 127 (0, 0)) := hg
        simp only [World.cell?, hgk]
        rw [Array.getElem?_eq_getElem (by omega)]
        rfl) (fun j hj => by
        have hgk : w.drew.heap[g]? = some (.cells cur 127 (0, 0)) := hg
        unfold World.frozen?
        rw [hgk]
        simp)
    have HR : Hid ((w.drew.setCells g (a * 2) (svZ (n - a))).ownsRow 0 127 2 (.slice (some ⟨g, 0, none⟩) a cap) a (svC (l.take a)) ∧ Turns (fun i => i = g) w (w.drew.setCells g (a * 2) (svZ (n - a)))) := by
      obtain ⟨cur', k1, k2, k3⟩ := setCells_heap (svZ (n - a)) (a * 2) w.drew cur hg
      refine ⟨⟨by rw [svC_len]; simp [HN.out]; omega, Or.inr ⟨g, cap, cur', rfl, Nat.zero_le _, k1, by omega, h3, by omega, ?_⟩⟩, (Turns.drewN _ w 1).trans (Turns.setCells g _ _ _) (fun _ _ h => h)⟩
      rw [← svC_take, ← h5, List.take_take, Nat.min_eq_left (by omega)]
      apply List.ext_getElem?
      intro i
      rw [List.getElem?_take, List.getElem?_take]
      split
      · rw [Array.getElem?_toList, Array.getElem?_toList]
        exact k3 i (by assumption)
      · rfl
    clear hrow hg h5
    by_cases hcn : cap = n
    · obtain rfl : n = cap := hcn.symm
      go_enter Tryz.func69, Tryz.ntmps69
      go_wp2_with fail
      go_region_held_law (fun _ => True) (trivial) (refine step_append_none rfl _ _ rfl ⟨g, 0, none⟩ a n _ (n - n) rfl rfl (by omega) ?_)
      go_wp2_with fail
      go_ret
      exact ⟨_, rfl, HR.out.1, rfl, HR.out.2.mono (fun i _ e => by rw [e]; rfl)⟩
    · go_enter Tryz.func69, Tryz.ntmps69
      go_wp2_with fail
      go_region_held_law (fun _ => True) (trivial) (refine step_append_none rfl _ _ rfl ⟨g, 0, none⟩ a cap _ (cap - n) rfl rfl (by omega) ?_)
      go_wp2_with fail
      go_ret
      exact ⟨_, rfl, HR.out.1, rfl, HR.out.2.mono (fun i _ e => by rw [e]; rfl)⟩
end Go.Proofs.YtnmdnglbpkpfdaaGreatDoor
