/- take of a heap whose keys are bytes, by its contract. -/
import Derived.Test.YtbopghpfghaoeaaH7u
import Derived.Handy
namespace Go.Proofs.Ytbopghpfghaoeaa
open Go.RowKit Go.Maps
set_option maxRecDepth 100000
attribute [local go_sem ↓] Go.wp_at_zero Go.wp_at_succ
/-- What take leaves. -/
def TakRU (w w' : World) (lab : Nat → Nat) (k hb bm g : Nat) (rv : Value) (l : List (Int × Int)) (x : Int × Int) : Prop := ∃ rv' l', FlU w' lab k hb bm rv' (g + 1) l' ∧ Turns (fun i => i = hb ∨ Fb bm rv i) w w' ∧ rv'.ownBlock = rv.ownBlock ∧ l'.length + 1 = l.length ∧ ∀ S, Sh OU l S → Sh OU l' (cutS S x.1)
theorem box_twoU (w : World) (u v : Value) (t : TypeId) : (w.alloc (.cells #[u, v] t)).cell? ⟨w.heap.size, 0, none⟩ = some u ∧ (w.alloc (.cells #[u, v] t)).cell? ⟨w.heap.size, 1, none⟩ = some v ∧ ∀ j, (w.alloc (.cells #[u, v] t)).frozen? ⟨w.heap.size, j, none⟩ = false := by
  have := heap_alloc_new w (.cells #[u, v] t)
  refine ⟨by simp only [World.cell?]; rw [this]; rfl, by simp only [World.cell?]; rw [this]; rfl, fun j => by simp only [World.frozen?]; rw [this]; simp⟩
set_option maxHeartbeats 4000000 in
theorem take_goU {w : World} {lab : Nat → Nat} {k hb bm g : Nat} {rv : Value} {D : DataW Value} {f : Int → Option Nat} {l : List (Int × Int)} (h : Hx KU w lab k hb bm rv D f l g) (hm : Mp f l) (hp : Hp OU l) (i : Nat) (x : Int × Int) (hx : l[i]? = some x) (hg : g < 8796093022208) :
    Calls Try.prog 59 #[.pointer (some ⟨hb, 0, none⟩), .int .i64 i] w fun e w' => e = .returned (.agg #[.int .u8 x.1, .int .i64 x.2]) ∧ TakRU w w' lab k hb bm g rv l x := by
  have hi := (List.getElem?_eq_some_iff.1 hx).1
  obtain ⟨e, he⟩ : ∃ e, e + 1 = l.length := ⟨l.length - 1, by omega⟩
  obtain ⟨y, hy⟩ : ∃ y, l[e]? = some y := ⟨_, List.getElem?_eq_getElem (by omega)⟩
  have hl := h.hl
  obtain ⟨gr, cap, hrv, hcap, x0, x1, hfz⟩ := h.at hx
  obtain ⟨gr', cap', hrv', _, y0, y1, _⟩ := h.at hy
  rw [hrv] at hrv'
  cases hrv'
  subst hrv
  obtain ⟨c0, c1, c2, c3, fz⟩ := h.cells
  have hlb := heap_lt h.box
  have hlg : gr < w.heap.size := World.block_lt_of_cell? w _ x0
  obtain ⟨N, hN⟩ : ∃ N, l.length = N := ⟨_, rfl⟩
  have HN : Hid (l.length = N) := hN
  rw [hN] at c0 hcap hi hl he
  have hNe : (N : Int) - 1 = (e : Int) := by omega
  have a1 : (i : Int) < N := by omega
  have a2 : (0 : Int) ≤ i := by omega
  have a3 : (N : Int) ≤ cap := by omega
  have a4 : (e : Int) < N := by omega
  have a5 : (0 : Int) ≤ e := by omega
  have a6 : (e : Int) ≤ cap := by omega
  have a7 : (N : Int) ≤ 4398046511104 := by omega
  replace x0 : w.cell? ⟨gr, i * 2, none⟩ = some (.int .u8 x.1) := x0
  replace y0 : w.cell? ⟨gr, e * 2, none⟩ = some (.int .u8 y.1) := y0
  have HE : Hid (e + 1 = N) := he
  obtain ⟨W1, hW1⟩ : ∃ W, w.alloc (.cells #[.int .u8 0, .int .i64 0] 129) = W := ⟨_, rfl⟩
  obtain ⟨W2, hW2⟩ : ∃ W, W1.alloc (.cells #[.int .u8 x.1, .int .i64 x.2] 129) = W := ⟨_, rfl⟩
  obtain ⟨W3, hW3⟩ : ∃ W, W2.alloc (.cells #[.int .u8 y.1, .int .i64 y.2] 129) = W := ⟨_, rfl⟩
  have s1 : W1.heap.size = w.heap.size + 1 := by rw [← hW1]; simp
  have s2 : W2.heap.size = w.heap.size + 1 + 1 := by rw [← hW2]; simp [s1]
  have b3 : Below w.heap.size w W3 := by
    have b1 : Below w.heap.size w W1 := by rw [← hW1]; exact (Below.refl _ w).alloc (Nat.le_refl _) _
    have b2 : Below w.heap.size w W2 := by rw [← hW2]; exact b1.alloc (by omega) _
    rw [← hW3]; exact b2.alloc (by omega) _
  have k1 : W1.cell? ⟨hb, 0, none⟩ = some (.slice (some ⟨gr, 0, none⟩) N cap) := by rw [← hW1]; exact cell_old c0 _
  have k2 : W2.cell? ⟨hb, 0, none⟩ = some (.slice (some ⟨gr, 0, none⟩) N cap) := by rw [← hW2]; exact cell_old k1 _
  have p1 : W1.cell? ⟨gr, i * 2, none⟩ = some (.int .u8 x.1) := by rw [← hW1]; exact cell_old x0 _
  have p2 : W1.cell? ⟨gr, i * 2 + 1, none⟩ = some (.int .i64 x.2) := by rw [← hW1]; exact cell_old x1 _
  have q1 : W2.cell? ⟨gr, e * 2, none⟩ = some (.int .u8 y.1) := by rw [← hW2, ← hW1]; exact cell_old (cell_old y0 _) _
  have q2 : W2.cell? ⟨gr, e * 2 + 1, none⟩ = some (.int .i64 y.2) := by rw [← hW2, ← hW1]; exact cell_old (cell_old y1 _) _
  have t3 : Turns (fun _ => False) w W3 := Below.turns b3 _
  have m0 : W3.cell? ⟨hb, 0, none⟩ = some (.slice (some ⟨gr, 0, none⟩) N cap) := cell_turn c0 t3 (fun q => q)
  have m1 : W3.cell? ⟨hb, 1, none⟩ = some (.map (some bm)) := cell_turn c1 t3 (fun q => q)
  have m3 : W3.cell? ⟨hb, 3, none⟩ = some (.int .i64 g) := cell_turn c3 t3 (fun q => q)
  have mz : ∀ j, W3.frozen? ⟨hb, j, none⟩ = false := fun j => froz_turn (a := ⟨hb, j, none⟩) (fz j) hlb t3 (fun q => q)
  have r1 : W3.cell? ⟨gr, e * 2, none⟩ = some (.int .u8 y.1) := cell_turn y0 t3 (fun q => q)
  have r2 : W3.cell? ⟨gr, e * 2 + 1, none⟩ = some (.int .i64 y.2) := cell_turn y1 t3 (fun q => q)
  have rz : ∀ j, W3.frozen? ⟨gr, j, none⟩ = false := fun j => froz_turn (a := ⟨gr, j, none⟩) (hfz j) hlg t3 (fun q => q)
  have hbg : ¬ hb = gr := fun q => h.rvh (by rw [q]; rfl)
  have hmg : ¬ bm = gr := fun q => h.bmr (by rw [q]; rfl)
  have hgm : ¬ gr = bm := fun q => hmg q.symm
  have hmh : ¬ bm = hb := h.bmh
  have hlm := h.map.lt
  obtain ⟨u1, u2, u3⟩ := box_twoU w (.int .u8 0) (.int .i64 0) 129
  rw [hW1] at u1 u2 u3
  obtain ⟨v1, v2, _⟩ := box_twoU W1 (.int .u8 x.1) (.int .i64 x.2) 129
  rw [hW2] at v1 v2
  obtain ⟨o1, o2, _⟩ := box_twoU W2 (.int .u8 y.1) (.int .i64 y.2) 129
  rw [hW3] at o1 o2
  have T23 : Turns (fun _ => False) W2 W3 := by rw [← hW3]; exact Turns.alloc _ _ _
  have T12 : Turns (fun _ => False) W1 W2 := by rw [← hW2]; exact Turns.alloc _ _ _
  have l1 : w.heap.size < W1.heap.size := by omega
  have B3 : W3.heap[w.heap.size]? = some (.cells #[.int .u8 0, .int .i64 0] 129) := (T23.block _ (by omega) (fun q => q)).trans ((T12.block _ l1 (fun q => q)).trans (by rw [← hW1]; exact heap_alloc_new _ _))
  have u1' := cell_turn (cell_turn u1 T12 (fun q => q)) T23 (fun q => q)
  have u2' := cell_turn (cell_turn u2 T12 (fun q => q)) T23 (fun q => q)
  have u3' : ∀ j, W3.frozen? ⟨w.heap.size, j, none⟩ = false := fun j => froz_turn (froz_turn (a := ⟨w.heap.size, j, none⟩) (u3 j) l1 T12 (fun q => q)) (by show w.heap.size < _; omega) T23 (fun q => q)
  have v1' := cell_turn v1 T23 (fun q => q)
  have v2' := cell_turn v2 T23 (fun q => q)
  have HH : Hid (Hx KU w lab k hb bm (.slice (some ⟨gr, 0, none⟩) (e + 1) cap) D f l g) := by
    have := h; rw [hN, ← he] at this; exact this
  have HB : Hid (Below w.heap.size w W3) := b3
  have hmap := map_turns h.map t3 (fun q => q)
  have hkey : keyOf Try.prog 5 (.int .u8 x.1) = some (.int .u8 x.1) := KU.key x.1 (h.ok x (List.mem_of_getElem? hx))
  have hoky := h.ok y (List.mem_of_getElem? hy)
  have HS : Hid (W1.heap.size = w.heap.size + 1 ∧ W2.heap.size = w.heap.size + 1 + 1) := ⟨s1, s2⟩
  have s3 : W2.heap.size < W3.heap.size := World.block_lt_of_cell? W3 _ o1
  clear he hN h c0 c1 c2 c3 fz x0 x1 y0 y1 hfz u1 u2 u3 v1 v2 s1 s2 b3 t3 T23 T12 l1
  go_enter Try.func59, Try.ntmps59
  go_wp2_with fail
  obtain ⟨W6, hW6⟩ : ∃ W6, ((W3.setCell ⟨gr, e * 2, none⟩ (.int .u8 0)).setCell ⟨gr, e * 2 + 1, none⟩ (.int .i64 0)).setCell ⟨hb, 0, none⟩ (.slice (some ⟨gr, 0, none⟩) e cap) = W6 := ⟨_, rfl⟩
  have t6 : Turns (fun i => i = hb ∨ i = gr) W3 W6.drew := by rw [← hW6]; exact Turns.set3 gr hb (e * 2) 1 _ _ _
  have bx3 := (Below.turns HB.out (fun _ => False)).block hb hlb (fun q => q) |>.trans HH.out.box
  have bx6 : W6.heap[hb]? = some (.cells #[.slice (some ⟨gr, 0, none⟩) e cap, .map (some bm), KU.fv, .int .i64 g] KU.ta) := by
    rw [← hW6]
    exact heap_setCell_same _ _ _ _ _ _ (((turns_set2 (w := W3) gr (e * 2) 0 (.int .u8 0) (.int .i64 0)).block hb (heap_lt bx3) hbg).trans bx3)
  have f1 : W6.cell? ⟨hb, 1, none⟩ = some (.map (some bm)) := by simp [World.cell?, bx6]
  have hnew : ∀ j, w.heap.size ≤ j → ¬ (j = hb ∨ j = gr) := fun j hj => by omega
  have f2 : W6.cell? ⟨W1.heap.size, 0, none⟩ = some (.int .u8 x.1) := cell_turn (w' := W6.drew) v1' t6 (hnew _ (by have := HS.out.1; show w.heap.size ≤ W1.heap.size; omega))
  have hm6 : W6.drew.ownsMap Try.prog 5 RV bm l.length D := map_turns hmap t6 (by show ¬ (bm = hb ∨ bm = gr); omega)
  obtain ⟨w6, hdel, hown6, ht6⟩ := hm6.drop KU.law Try.underlying121 hkey 0
  have tm : Turns (fun i => i = bm) W6.drew w6 := Turns.grown ht6.grown (fun b hb => (Option.some.inj hb).symm)
  have bx7 := (tm.block hb (heap_lt bx6) (fun q => hmh q.symm)).trans bx6
  have f3 : w6.cell? ⟨hb, 3, none⟩ = some (.int .i64 g) := by simp [World.cell?, bx7]
  have f4 : w6.frozen? ⟨hb, 3, none⟩ = false := by simp [World.frozen?, bx7]
  clear m0 m1 m3 mz r1 r2 rz k1 k2 p1 p2 q1 q2
  go_region
  obtain ⟨w7, hw7⟩ : ∃ w7, w6.setCell ⟨hb, 3, none⟩ (.int .i64 ((g : Int) + 1)) = w7 := ⟨_, rfl⟩
  have HC : ∀ ks : List Int, ks.length ≤ e → (∀ a, (del f x.1 a).isSome = true → a ∈ ks) → Hx KU w7 lab k hb bm (.slice (some ⟨gr, 0, none⟩) e cap) (D.del (KU.lit x.1)) (del f x.1) (l.take e) (g + 1) ∧ Turns (fun i => i = hb ∨ i = gr ∨ i = bm) W3 w7 := fun ks h1 h2 => by
    have := HH.out.cutAt (m := 1) (by rw [HN.out]; exact HE.out) h1 h2 hg (.int .u8 0) (.int .i64 0) HB.out hown6 (by rw [← hW6] at ht6; exact ht6)
    rw [← hw7]; exact this
  have t7 : Turns (fun i => i = hb ∨ i = gr ∨ i = bm) W3 w7 := by
    rw [← hw7]
    refine ((t6.mono (fun i _ q => ?_)).trans tm (fun _ _ q => Or.inr (Or.inr q))).trans (Turns.cell w6 hb 3 _) (fun _ _ q => Or.inl q)
    rcases q with q | q
    · exact Or.inl q
    · exact Or.inr (Or.inl q)
  have hnew7 : ∀ j, w.heap.size ≤ j → ¬ (j = hb ∨ j = gr ∨ j = bm) := fun j hj => by omega
  have g1 : w7.cell? ⟨w.heap.size, 0, none⟩ = some (.int .u8 0) := cell_turn u1' t7 (hnew7 _ (Nat.le_refl _))
  have g2 : w7.cell? ⟨w.heap.size, 1, none⟩ = some (.int .i64 0) := cell_turn u2' t7 (hnew7 _ (Nat.le_refl _))
  have hl0 : w.heap.size < W3.heap.size := World.block_lt_of_cell? W3 _ u1'
  have g3 : ∀ j, w7.frozen? ⟨w.heap.size, j, none⟩ = false := fun j => froz_turn (a := ⟨w.heap.size, j, none⟩) (u3' j) hl0 t7 (hnew7 _ (Nat.le_refl _))
  have hs1 : w.heap.size ≤ W1.heap.size := by have := HS.out.1; omega
  have hs2 : w.heap.size ≤ W2.heap.size := by have := HS.out.2; omega
  have g4 : w7.cell? ⟨W1.heap.size, 0, none⟩ = some (.int .u8 x.1) := cell_turn v1' t7 (hnew7 _ hs1)
  have g5 : w7.cell? ⟨W1.heap.size, 1, none⟩ = some (.int .i64 x.2) := cell_turn v2' t7 (hnew7 _ hs1)
  have g6 : w7.cell? ⟨W2.heap.size, 0, none⟩ = some (.int .u8 y.1) := cell_turn o1 t7 (hnew7 _ hs2)
  have g7 : w7.cell? ⟨W2.heap.size, 1, none⟩ = some (.int .i64 y.2) := cell_turn o2 t7 (hnew7 _ hs2)
  have hne : ¬ w.heap.size = W1.heap.size := by have := HS.out.1; omega
  have T7 : Hid (Turns (fun i => i = hb ∨ Fb bm (.slice (some ⟨gr, 0, none⟩) N cap) i) w w7) := (Below.turns HB.out _).trans t7 (fun i _ q => by
    rcases q with q | q | q
    · exact Or.inl q
    · subst q; exact Or.inr (Or.inr rfl)
    · exact Or.inr (Or.inl q))
  have B7 := (t7.block _ hl0 (hnew7 _ (Nat.le_refl _))).trans B3
  clear B3 bx6 bx7 f1 f2 hown6 ht6 tm u1' u2' u3' v1' v2' o1 o2 bx3 t6 hdel hm6 hmap hW6
  have HLE : Hid (e + 1 = l.length) := by show _ = _; rw [HN.out]; exact HE.out
  by_cases hie : i < e
  · have hMG := hm.gap hie HLE.out hx hy
    have h7 := (HC (((l.take e).set i y).map Prod.fst) (by simp; omega) hMG.dom).1
    have G7 : GpU w7 lab k hb bm (.slice (some ⟨gr, 0, none⟩) e cap) (g + 1) y ((l.take e).set i y) (l.take e) i := ⟨_, _, h7, hMG, (hp.take e).gap i, List.Perm.refl _⟩
    have b1 : (i : Int) < e := by omega
    have hfb := fun j (hj : w.heap.size ≤ j) => fb_newU (w := w) (n := e) (cap := cap) hlm hlg hj
    clear HC hMG h7
    go_wp2_with fail
    refine (settle_U G7 hoky).mono ?_
    rintro e' w8 ⟨rfl, ⟨l', h8, p8⟩, t8⟩
    have i1 := cell_turn g1 t8 (hfb _ (Nat.le_refl _))
    have i2 := cell_turn g2 t8 (hfb _ (Nat.le_refl _))
    have i3 : ∀ j, w8.frozen? ⟨w.heap.size, j, none⟩ = false := fun j => froz_turn (a := ⟨w.heap.size, j, none⟩) (g3 j) (Nat.lt_of_lt_of_le hl0 t7.size) t8 (hfb _ (Nat.le_refl _))
    have i4 := cell_turn g4 t8 (hfb _ hs1)
    have i5 := cell_turn g5 t8 (hfb _ hs1)
    have T8 : Hid (Turns (fun i => i = hb ∨ Fb bm (.slice (some ⟨gr, 0, none⟩) N cap) i) w w8) := T7.out.trans t8 (fun i _ q => Or.inr (by
      rcases q with q | q
      · exact Or.inl q
      · exact Or.inr q))
    have hlw : w.heap.size ≤ w8.heap.size := T8.out.size
    clear g1 g2 g3 g4 g5 g6 g7
    have B8 := (t8.block _ (heap_lt B7) (hfb _ (Nat.le_refl _))).trans B7
    clear B7 t8 hfb G7
    go_wp2_with fail
    obtain ⟨W9, hW9⟩ : ∃ W9, (w8.setCell ⟨w.heap.size, 0, none⟩ (.int .u8 x.1)).setCell ⟨w.heap.size, 1, none⟩ (.int .i64 x.2) = W9 := ⟨_, rfl⟩
    have B9 : W9.heap[w.heap.size]? = some (.cells #[.int .u8 x.1, .int .i64 x.2] 129) := by
      rw [← hW9]
      exact heap_setCell_same _ _ _ _ _ _ (heap_setCell_same _ _ _ _ _ _ B8)
    have j0 : W9.cell? ⟨w.heap.size, 0, none⟩ = some (.int .u8 x.1) := by simp [World.cell?, B9]
    have j1 : W9.cell? ⟨w.heap.size, 1, none⟩ = some (.int .i64 x.2) := by simp [World.cell?, B9]
    have t9 : Turns (fun i => i = w.heap.size) w8 W9 := by rw [← hW9]; exact (Turns.cell _ _ _ _).trans (Turns.cell _ _ _ _) (fun _ _ q => q)
    rw [hW9]
    clear B8 B9 hW9 i1 i2 i3 i4 i5
    refine bodyPost_ret (v := .agg #[.int .u8 x.1, .int .i64 x.2]) (by simp [results, Try.results59, go_sem, j0, j1]) rfl ?_
    refine ⟨rfl, .slice (some ⟨gr, 0, none⟩) e cap, l', ?_, ?_, rfl, ?_, fun S hS => (hS.gap hie HLE.out hx hy).of_perm p8⟩
    · obtain ⟨D', f', h9, r9⟩ := h8
      exact ⟨D', f', h9.turnsX t9 (by omega) (by omega) (fun b q => by cases q; show ¬ gr = _; omega), r9⟩
    · rw [HN.out]; exact T8.out.trans t9 (fun i hi q => by omega)
    · rw [p8.length_eq]; simp; have := HLE.out; omega
  · have hee : i = e := by have := HE.out; omega
    have hxe : l[e]? = some x := by rw [← hee]; exact hx
    have hMp := hm.last HLE.out hxe
    have h7 := (HC ((l.take e).map Prod.fst) (by simp; omega) hMp.dom).1
    have G7 : FlU w7 lab k hb bm (.slice (some ⟨gr, 0, none⟩) e cap) (g + 1) (l.take e) := ⟨_, _, h7, hMp, hp.take e⟩
    have b1 : ¬ (i : Int) < e := by omega
    clear HC hMp h7 hee
    go_wp2_with fail
    obtain ⟨W9, hW9⟩ : ∃ W9, (w7.setCell ⟨w.heap.size, 0, none⟩ (.int .u8 x.1)).setCell ⟨w.heap.size, 1, none⟩ (.int .i64 x.2) = W9 := ⟨_, rfl⟩
    have B9 : W9.heap[w.heap.size]? = some (.cells #[.int .u8 x.1, .int .i64 x.2] 129) := by
      rw [← hW9]
      exact heap_setCell_same _ _ _ _ _ _ (heap_setCell_same _ _ _ _ _ _ B7)
    have j0 : W9.cell? ⟨w.heap.size, 0, none⟩ = some (.int .u8 x.1) := by simp [World.cell?, B9]
    have j1 : W9.cell? ⟨w.heap.size, 1, none⟩ = some (.int .i64 x.2) := by simp [World.cell?, B9]
    have t9 : Turns (fun i => i = w.heap.size) w7 W9 := by rw [← hW9]; exact (Turns.cell _ _ _ _).trans (Turns.cell _ _ _ _) (fun _ _ q => q)
    rw [hW9]
    clear B7 B9 hW9 g1 g2 g3 g4 g5 g6 g7
    refine bodyPost_ret (v := .agg #[.int .u8 x.1, .int .i64 x.2]) (by simp [results, Try.results59, go_sem, j0, j1]) rfl ?_
    refine ⟨rfl, .slice (some ⟨gr, 0, none⟩) e cap, l.take e, ?_, ?_, rfl, ?_, fun S hS => hS.last HLE.out hxe⟩
    · obtain ⟨D', f', h9, r9⟩ := G7
      exact ⟨D', f', h9.turnsX t9 (by omega) (by omega) (fun b q => by cases q; show ¬ gr = _; omega), r9⟩
    · rw [HN.out]; exact T7.out.trans t9 (fun i hi q => by omega)
    · rw [List.length_take]; have := HLE.out; omega
/-- take. -/
theorem take_U {w : World} {lab : Nat → Nat} {k hb bm g : Nat} {rv : Value} {l : List (Int × Int)} (h : FlU w lab k hb bm rv g l) (i : Nat) (x : Int × Int) (hx : l[i]? = some x) (hg : g < 8796093022208) :
    Calls Try.prog 59 #[.pointer (some ⟨hb, 0, none⟩), .int .i64 i] w fun e w' => e = .returned (.agg #[.int .u8 x.1, .int .i64 x.2]) ∧ TakRU w w' lab k hb bm g rv l x := by
  obtain ⟨D, f, h1, hm, hp⟩ := h
  exact take_goU h1 hm hp i x hx hg
end Go.Proofs.Ytbopghpfghaoeaa
