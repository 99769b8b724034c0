/- made. -/
import Derived.Test.YtejfbjjhnhlagaaPP4
import Derived.WalkSmall
import Derived.Deep.RegionHeld3
namespace Go.Proofs.Ytejfbjjhnhlagaa
open Go.RowKit Go.Maps
set_option maxRecDepth 100000

theorem and_one (x : Int) : ∃ q : Nat, q ≤ 1 ∧ bits BinOp.and IntKind.i64 x 1 = (q : Int) := by
  have e : bits BinOp.and IntKind.i64 x 1 = IntKind.i64.wrap (((x % 2 ^ 64).toNat &&& 1 : Nat) : Int) := by
    show IntKind.i64.wrap ((BitVec.ofInt 64 x &&& BitVec.ofInt 64 1).toNat : Int) = _
    rw [BitVec.toNat_and]
    congr 2
  rw [e, Nat.and_one_is_mod]
  refine ⟨(x % 2 ^ 64).toNat % 2, by omega, ?_⟩
  rw [IntKind.wrap_i64]
  omega
theorem Fr.turns {P : Nat → Prop} {base : Nat} {w w' : World} (h : Fr P base w w') : Turns (fun i => ¬ P i) w w' :=
  ⟨h.blw.os, h.blw.tape, h.blw.output, h.blw.size, fun i _ hi => h.free i (Classical.byContradiction hi)⟩
/-- A new pair is laid into the play. -/
theorem Pz.set {w : World} {base yb : Nat} {s : Int} {N : Nat} {a b : Nat → Value} {T : Nat → Option PairT} {bv : Value} {es : List Ke} {P : Nat → Prop} (h : Pz w base yb s N a b T bv es P) {q : Nat} (hq : q ≤ 1) {db rb k : Nat} {S : DevS} {F R : Nat → Prop} (hd : Dev w db 0 S k N F) (hr : RDev w rb S k R) (hF : ∀ i, F i → P i) (hR : ∀ i, R i → P i) (hap : ∀ i, F i → ¬ R i) :
    Pz ((w.setCell ⟨yb, q * 2, none⟩ (.pointer (some ⟨db, 0, none⟩))).setCell ⟨yb, q * 2 + 1, none⟩ (.pointer (some ⟨rb, 0, none⟩))) base yb s N (upd a q (.pointer (some ⟨db, 0, none⟩))) (upd b q (.pointer (some ⟨rb, 0, none⟩))) (upd T q (some ⟨db, rb, S, S, k, F, R⟩)) bv es (fun _ => False) ∧ Below base w ((w.setCell ⟨yb, q * 2, none⟩ (.pointer (some ⟨db, 0, none⟩))).setCell ⟨yb, q * 2 + 1, none⟩ (.pointer (some ⟨rb, 0, none⟩))) := by
  obtain ⟨L, h, hL⟩ := h
  obtain ⟨W, hW⟩ : ∃ W, (w.setCell ⟨yb, q * 2, none⟩ (.pointer (some ⟨db, 0, none⟩))).setCell ⟨yb, q * 2 + 1, none⟩ (.pointer (some ⟨rb, 0, none⟩)) = W := ⟨_, rfl⟩
  have hbox : W.heap[yb]? = some (.cells #[upd a q (.pointer (some ⟨db, 0, none⟩)) 0, upd b q (.pointer (some ⟨rb, 0, none⟩)) 0, upd a q (.pointer (some ⟨db, 0, none⟩)) 1, upd b q (.pointer (some ⟨rb, 0, none⟩)) 1, bv, .int .i64 s] 32 (0, 0)) := by
    rw [← hW, heap_setCell_same _ _ _ _ _ _ (heap_setCell_same _ _ _ _ _ _ h.box)]
    rcases (show q = 0 ∨ q = 1 by omega) with rfl | rfl
    · simp [upd]
    · simp [upd]
  have t : Turns (fun i => i = yb) w W := by rw [← hW]; exact (Turns.cell w yb _ _).trans (Turns.cell _ yb _ _) (fun _ _ h => h)
  have hs : W.heap.size = w.heap.size := by rw [← hW]; simp [World.setCell]
  rw [hW]
  have hy := h.own
  have h0 : ∀ i, (F i ∨ R i) → L i = 0 := fun i hi => (hL i (hi.elim (hF i) (hR i))).1
  have e1 : ∀ {d i : Nat}, d ≠ 0 → L i = d → relab L (fun i => F i ∨ R i) (6 + q) i = d := fun hd hi => relab_eq h0 hd hi
  refine ⟨⟨relab L (fun i => F i ∨ R i) (6 + q), ⟨hbox, e1 (by omega) hy, fun i hi => h.one i (relab_ne (by omega) hi), ?_, ?_, ?_, by rw [hs]; exact h.bs, fun i cs ty h1 h2 => ?_⟩, fun _ h => h.elim⟩, t.below (fun i e => by subst e; exact (h.lt i (by omega)).1) h.bs⟩
  · exact (h.bk.turns t (fun i hi e => by subst e; omega)).mono (fun i hi => e1 (by omega) hi)
  · intro r hr'
    by_cases e : r = q
    · subst e
      rw [upd_same, upd_same, upd_same]
      refine ⟨rfl, rfl, hd.turns t (fun i hi e => by subst e; have := h0 i (Or.inl hi); omega), hr.turns t (fun i hi e => by subst e; have := h0 i (Or.inr hi); omega), fun i hi => relab_in (Or.inl hi), fun i hi => relab_in (Or.inr hi), hap⟩
    · rw [upd_other _ _ e, upd_other _ _ e, upd_other _ _ e]
      exact (h.pt r hr').turns t (fun i hi e => by subst e; omega) (Nat.le_refl _) (fun i hi => e1 (by omega) hi)
  · intro i hi
    rw [hs]
    by_cases u : F i ∨ R i
    · exact (hL i (u.elim (hF i) (hR i))).2
    · rw [relab_out u] at hi
      exact h.lt i hi
  · rw [upd_other _ _ (by omega)] at h1 h2
    have hx := h.fr i cs ty h1 h2
    exact ⟨(t.block i (heap_lt hx.1) (fun e => by subst e; omega)).trans hx.1, e1 (by omega) hx.2⟩
theorem Pz.nil {w : World} {base yb : Nat} {s : Int} {N : Nat} {a b : Nat → Value} {T : Nat → Option PairT} {bv : Value} {es : List Ke} {P : Nat → Prop} (h : Pz w base yb s N a b T bv es P) {q : Nat} (hq : q ≤ 2) (ht : T q = none) : a q = .pointer none ∧ b q = .pointer none := by
  obtain ⟨L, h, hL⟩ := h
  have := h.pt q hq
  rw [ht] at this
  exact this
theorem Pz.cell2 {w : World} {base yb : Nat} {s : Int} {N : Nat} {a b : Nat → Value} {T : Nat → Option PairT} {bv : Value} {es : List Ke} {P : Nat → Prop} (h : Pz w base yb s N a b T bv es P) {q : Nat} (hq : q ≤ 1) : w.cell? ⟨yb, q * 2, none⟩ = some (a q) ∧ w.cell? ⟨yb, q * 2 + 1, none⟩ = some (b q) := by
  obtain ⟨c0, c1, c2, c3, _⟩ := h.cells
  rcases (show q = 0 ∨ q = 1 by omega) with rfl | rfl
  · exact ⟨c0, c1⟩
  · exact ⟨c2, c3⟩
theorem Pz.ny {w : World} {base yb : Nat} {s : Int} {N : Nat} {a b : Nat → Value} {T : Nat → Option PairT} {bv : Value} {es : List Ke} {P : Nat → Prop} (h : Pz w base yb s N a b T bv es P) {i : Nat} (hi : P i) : yb ≠ i := fun e => by
  obtain ⟨L, h, hL⟩ := h
  subst e
  have := (hL yb hi).1
  have := h.own
  omega
theorem Aft.drew {w w' : World} {base yb : Nat} {s : Int} {N : Nat} {a b : Nat → Value} {M : Nat} (h : Aft w w' base yb s N a b M) : Aft w w'.drew base yb s N a b M := by
  obtain ⟨⟨T, bv, es, z, r⟩, hB⟩ := h
  exact ⟨⟨T, bv, es, z.drewN 1, r⟩, ⟨hB.os, hB.tape, hB.output, hB.size, hB.block⟩⟩
/-- A new pair is laid into a local variable of the call. -/
theorem Pz.loc {w : World} {base yb : Nat} {s : Int} {N : Nat} {a b : Nat → Value} {T : Nat → Option PairT} {bv : Value} {es : List Ke} {P : Nat → Prop} (h : Pz w base yb s N a b T bv es P) {C : Nat} (hC : P C) {pa pb : Value} (bC : w.heap[C]? = some (.cells #[pa, pb] 28 (0, 0))) {db rb k : Nat} {S : DevS} {F R : Nat → Prop} (hd : Dev w db 0 S k N F) (hr : RDev w rb S k R) (hF : ∀ i, F i → i ≠ C) (hR : ∀ i, R i → i ≠ C) :
    ∃ w', (w.setCell ⟨C, 0, none⟩ (.pointer (some ⟨db, 0, none⟩))).setCell ⟨C, 1, none⟩ (.pointer (some ⟨rb, 0, none⟩)) = w' ∧ Pz w' base yb s N a b T bv es P ∧ Dev w' db 0 S k N F ∧ RDev w' rb S k R ∧ w'.cell? ⟨C, 0, none⟩ = some (.pointer (some ⟨db, 0, none⟩)) ∧ w'.cell? ⟨C, 1, none⟩ = some (.pointer (some ⟨rb, 0, none⟩)) ∧ Fr (fun i => P i ∧ i ≠ C) base w w' := by
  have t4 : Turns (fun i => i = C) w ((w.setCell ⟨C, 0, none⟩ (.pointer (some ⟨db, 0, none⟩))).setCell ⟨C, 1, none⟩ (.pointer (some ⟨rb, 0, none⟩))) := (Turns.cell w C 0 _).trans (Turns.cell _ C 1 _) (fun _ _ h => h)
  have bx4 : ((w.setCell ⟨C, 0, none⟩ (.pointer (some ⟨db, 0, none⟩))).setCell ⟨C, 1, none⟩ (.pointer (some ⟨rb, 0, none⟩))).heap[C]? = some (.cells #[.pointer (some ⟨db, 0, none⟩), .pointer (some ⟨rb, 0, none⟩)] 28 (0, 0)) := by
    rw [heap_setCell_same _ _ _ _ _ _ (heap_setCell_same _ _ _ _ _ _ bC)]; rfl
  obtain ⟨z4, f4⟩ := h.free t4 (fun i hi => by subst hi; exact hC)
  exact ⟨_, rfl, z4.less (fun _ h => Or.inl h), hd.turns t4 (fun i hi e => hF i hi e), hr.turns t4 (fun i hi e => hR i hi e), by simp [World.cell?, bx4], by simp [World.cell?, bx4], ⟨f4.blw, fun i hi => f4.free i ⟨hi.1, hi.2⟩⟩⟩
theorem Aft.none {w w2 : World} {base yb : Nat} {s : Int} {N N' : Nat} {a b : Nat → Value} {T : Nat → Option PairT} {bv : Value} {es : List Ke} {P : Nat → Prop} {M : Nat} (z : Pz w2 base yb s N a b T bv es P) (hbal : Bal T) (hT2 : T 2 = Option.none) (hM : es.length ≤ M) (hN : N ≤ N') (hB : Below base w w2) : Aft w w2 base yb s N' a b M :=
  ⟨⟨T, bv, es, (z.less (fun _ h => h.elim)).up hN, hbal, hT2, hM⟩, hB⟩
/-- Pointers that a pair of the play can be. -/
theorem Pz.ptr {w : World} {base yb : Nat} {s : Int} {N : Nat} {a b : Nat → Value} {T : Nat → Option PairT} {bv : Value} {es : List Ke} {P : Nat → Prop} (h : Pz w base yb s N a b T bv es P) {q : Nat} (hq : q ≤ 1) : ∃ pa pb, a q = .pointer pa ∧ b q = .pointer pb := by
  cases ht : T q with
  | none => exact ⟨_, _, (h.nil (by omega) ht).1, (h.nil (by omega) ht).2⟩
  | some t => exact ⟨_, _, (h.two (by omega) ht).1, (h.two (by omega) ht).2.1⟩

set_option maxHeartbeats 4000000 in
theorem made_new_good {w : World} {base yb : Nat} {s : Int} {N : Nat} {a b : Nat → Value} {T : Nat → Option PairT} {bv : Value} {es : List Ke} (h : Pz w base yb s N a b T bv es (fun _ => False)) (hbal : Bal T) (hT2 : T 2 = none) (who : Int) {q : Nat} (hq : q ≤ 1) (hwq : bits BinOp.and IntKind.i64 who 1 = (q : Int)) (hN : N ≤ 1000000000) (hes : es.length ≤ 900000000000) (k2 k4 k5 : Value) (kk : Nat) (h1 : 1 ≤ kk) (h2 : kk ≤ 4096) :
    Calls Try.prog 5 #[.pointer (some ⟨yb, 0, none⟩), .agg #[.int .i64 1, .int .i64 who, k2, .int .i64 kk, k4, k5]] w fun e w' => e = .returned (.bool true) ∧ ∃ a' b', Aft w w' base yb s (N + 1) a' b' (es.length + 3) := by
  have hNes : N ≤ 1000000000 ∧ es.length ≤ 900000000000 := ⟨hN, hes⟩
  clear hNes
  obtain ⟨pa, pb, epa, epb⟩ := h.ptr hq
  obtain ⟨W, hW⟩ : ∃ W, w.alloc (.cells #[.int .i64 1, .int .i64 who, k2, .int .i64 kk, k4, k5] 36) = W := ⟨_, rfl⟩
  have hbW : Below w.heap.size w W := by rw [← hW]; exact (Below.refl _ w).alloc (Nat.le_refl _) _
  have hs : W.heap.size = w.heap.size + 1 := by rw [← hW]; simp
  obtain ⟨B, hB⟩ : ∃ B, w.heap.size = B := ⟨_, rfl⟩
  obtain ⟨z0, f0⟩ := h.below hbW
  replace z0 := z0.less (P' := fun i => i = w.heap.size) (fun i hi => Or.inr (by omega))
  have B0 := f0.blw
  have o0 : W.cell? ⟨w.heap.size, 0, none⟩ = some (.int .i64 1) := by rw [← hW]; simp
  have o1 : W.cell? ⟨w.heap.size, 1, none⟩ = some (.int .i64 who) := by rw [← hW]; simp
  have o2 : W.cell? ⟨w.heap.size, 2, none⟩ = some (k2) := by rw [← hW]; simp
  have o3 : W.cell? ⟨w.heap.size, 3, none⟩ = some (.int .i64 kk) := by rw [← hW]; simp
  have o4 : W.cell? ⟨w.heap.size, 4, none⟩ = some (k4) := by rw [← hW]; simp
  have hwlt : w.heap.size < W.heap.size := by omega
  rw [hB] at z0 o0 o1 o2 o3 o4 hwlt
  have HB : Hid (w.heap.size = B) := hB
  obtain ⟨ya, yb'⟩ := z0.cell2 hq
  rw [epa] at ya
  rw [epb] at yb'
  have hyl := z0.lt
  clear h hs f0
  have hqi : (q : Int) < 2 := by omega
  have hqi0 : (0 : Int) ≤ q := by omega
  -- the local pair
  have hbX : ∀ o, Below W.heap.size W (W.alloc o) := fun o => (Below.refl _ W).alloc (Nat.le_refl _) o
  have xo1 : ∀ o, (W.alloc o).cell? ⟨B, 1, none⟩ = some (.int .i64 who) := fun o => ((hbX o).cell hwlt).trans o1
  have xya : ∀ o, (W.alloc o).cell? ⟨yb, q * 2, none⟩ = some (.pointer pa) := fun o => ((hbX o).cell hyl.1).trans ya
  have xyb : ∀ o, (W.alloc o).cell? ⟨yb, q * 2 + 1, none⟩ = some (.pointer pb) := fun o => ((hbX o).cell hyl.1).trans yb'
  go_enter Try.func5, Try.ntmps5
  go_wp2_with fail
  go_region_held3 (fun w' => w'.cell? ⟨B, 1, none⟩ = some (.int .i64 who) ∧ w'.cell? ⟨yb, q * 2, none⟩ = some (.pointer pa) ∧ w'.cell? ⟨yb, q * 2 + 1, none⟩ = some (.pointer pb)) (first | exact ⟨o1, ya, yb'⟩ | exact ⟨xo1 _, xya _, xyb _⟩) (fail)
  obtain ⟨X, hX⟩ : ∃ X, (W.alloc (.cells #[.pointer pa, .pointer pb] 28)).drew = X := ⟨_, rfl⟩
  have hbX1 : Below W.heap.size W X := by rw [← hX]; exact ⟨rfl, rfl, rfl, by simp, fun i hi => (hbX _).block i hi⟩
  have hsX : X.heap.size = W.heap.size + 1 := by rw [← hX]; simp
  obtain ⟨C, hC⟩ : ∃ C, W.heap.size = C := ⟨_, rfl⟩
  have pX0 : X.cell? ⟨W.heap.size, 0, none⟩ = some (.pointer pa) := by rw [← hX]; simp
  have pX1 : X.cell? ⟨W.heap.size, 1, none⟩ = some (.pointer pb) := by rw [← hX]; simp
  have bX : X.heap[W.heap.size]? = some (.cells #[.pointer pa, .pointer pb] 28 (0, 0)) := by rw [← hX]; exact (MapKept.heap_alloc W _).1
  obtain ⟨z1, f1⟩ := z0.below hbX1
  replace z1 := z1.less (P' := fun i => i = B ∨ i = W.heap.size) (fun i hi => hi.elim Or.inl (fun r => Or.inr (by omega)))
  have B1 := B0.trans f1.blw
  have hBC : B ≠ W.heap.size := by omega
  have x0 : X.cell? ⟨B, 0, none⟩ = some (.int .i64 1) := f1.cell rfl o0
  have x1 : X.cell? ⟨B, 1, none⟩ = some (.int .i64 who) := f1.cell rfl o1
  have x3 : X.cell? ⟨B, 3, none⟩ = some (.int .i64 kk) := f1.cell rfl o3
  have x4 : X.cell? ⟨B, 4, none⟩ = some (k4) := f1.cell rfl o4
  have xy2 : X.cell? ⟨yb, q * 2, none⟩ = some (.pointer pa) ∧ X.cell? ⟨yb, q * 2 + 1, none⟩ = some (.pointer pb) := by rw [← epa, ← epb]; exact z1.cell2 hq
  rw [hC] at pX0 pX1 bX z1 hBC
  rw [hX, hC]
  have HC : Hid (W.heap.size = C) := hC
  have hHX : Hid (X.heap.size = C + 1 ∧ B < C) := ⟨by omega, by omega⟩
  have HYB : Hid (yb ≠ B) := z1.ny (Or.inl rfl)
  have HYC : Hid (yb ≠ C) := z1.ny (Or.inr rfl)
  clear o0 o1 o2 o3 o4 ya yb' xo1 xya xyb z0 f1 hX hbX
  go_wp2_with fail
  have fX0 : ∀ j, X.frozen? ⟨C, j, none⟩ = false := fun j => by simp [World.frozen?, bX]
  go_region_held3 (fun w' => w'.cell? ⟨B, 3, none⟩ = some (.int .i64 kk)) (first | exact x3 | exact y3 | exact y3' | exact y3'') 
    (first
      | (go_at_call 10; refine (new_good kk X.drew h1 h2).mono ?_; rintro e w2 ⟨db, rfl, D2, b2⟩; have y3 : w2.cell? ⟨B, 3, none⟩ = some (.int .i64 kk) := (b2.cell (by show B < X.heap.size; omega)).trans x3)
      | (go_at_call 20; refine (refNew_good kk w2 h1 h2).mono ?_; rintro e w3 ⟨rb, rfl, R3, b3⟩; have y3' : w3.cell? ⟨B, 3, none⟩ = some (.int .i64 kk) := (b3.cell (World.block_lt_of_cell? w2 _ y3)).trans y3; have p3 : w3.heap[C]? = some (.cells #[.pointer pa, .pointer pb] 28 (0, 0)) := (b3.block C (by have := b2.size; have : X.drew.heap.size = X.heap.size := rfl; omega)).trans ((b2.block C (by show C < X.heap.size; omega)).trans bX); have p30 : w3.cell? ⟨C, 0, none⟩ = some (.pointer pa) := by { simp [World.cell?, p3] }; have p31 : w3.cell? ⟨C, 1, none⟩ = some (.pointer pb) := by { simp [World.cell?, p3] }; have g30 : w3.frozen? ⟨C, 0, none⟩ = false := by { simp [World.frozen?, p3] }; have g31 : w3.frozen? ⟨C, 1, none⟩ = false := by { simp [World.frozen?, p3] }; have y3'' : ((w3.setCell ⟨C, 0, none⟩ (.pointer (some ⟨db, 0, none⟩))).setCell ⟨C, 1, none⟩ (.pointer (some ⟨rb, 0, none⟩))).cell? ⟨B, 3, none⟩ = some (.int .i64 kk) := (World.cell?_setCell_other _ _ _ _ (by first | (simp; done) | (simp; omega))).trans ((World.cell?_setCell_other _ _ _ _ (by first | (simp; done) | (simp; omega))).trans y3')))
  have b23 : Below X.heap.size X w3 := Below.trans ⟨b2.os, b2.tape, b2.output, b2.size, b2.block⟩ (b3.mono b2.size)
  obtain ⟨z3, f3⟩ := z1.below b23
  have hsz2 : X.heap.size ≤ w2.heap.size := b2.size
  have hsz3 := b3.size
  have D3 := (D2.below b3).up (Nat.zero_le N)
  have hFC : ∀ i, grow (fun _ => False) X.drew w2 i → i ≠ C := fun i hi e => hi.elim id (fun r => by have h1 : X.heap.size ≤ i := r.1; omega)
  have hRC : ∀ i, grow (fun _ => False) w2 w3 i → i ≠ C := fun i hi e => hi.elim id (fun r => by omega)
  obtain ⟨w4, hw4, z4, D4, R4, u0, u1, f4⟩ := z3.loc (Or.inl (Or.inr rfl)) p3 D3 R3 hFC hRC
  have v1 : w4.cell? ⟨B, 1, none⟩ = some (.int .i64 who) := f4.cell ⟨Or.inl (Or.inl rfl), by omega⟩ (f3.cell (Or.inl rfl) x1)
  have B4 := (B1.trans f3.blw).trans f4.blw
  have hFP : ∀ i, grow (fun _ => False) X.drew w2 i → ((i = B ∨ i = C) ∨ (X.heap.size ≤ i ∧ i < w3.heap.size)) := fun i hi => hi.elim (fun r => r.elim) (fun r => Or.inr ⟨r.1, by omega⟩)
  have hRP : ∀ i, grow (fun _ => False) w2 w3 i → ((i = B ∨ i = C) ∨ (X.heap.size ≤ i ∧ i < w3.heap.size)) := fun i hi => hi.elim (fun r => r.elim) (fun r => Or.inr ⟨by omega, r.2⟩)
  have hap : ∀ i, grow (fun _ => False) X.drew w2 i → ¬ grow (fun _ => False) w2 w3 i := fun i hi hj => hi.elim id (fun r => hj.elim id (fun r' => by omega))
  rw [hw4] at y3'' ⊢
  clear hw4 z3 z1 f3 f4 D3 R3 D2 p3 p30 p31 g30 g31 y3 y3' y3'' pX0 pX1 bX x0 x1 x3 x4 xy2 fX0 hFC hRC
  have c2 := z4.cell2 hq
  rw [epa, epb] at c2
  obtain ⟨ya2, yb2⟩ := c2
  have ff := z4.cells.2.2.2.2.2.2
  have ff0 := ff (q * 2)
  have ff1 := ff (q * 2 + 1)
  obtain ⟨zE, BE⟩ := z4.set hq D4 R4 hFP hRP hap
  have hAE : ∃ a' b', Aft w ((w4.setCell ⟨yb, q * 2, none⟩ (.pointer (some ⟨db, 0, none⟩))).setCell ⟨yb, q * 2 + 1, none⟩ (.pointer (some ⟨rb, 0, none⟩))) base yb s (N + 1) a' b' (es.length + 3) := ⟨_, _, Aft.of zE hbal hT2 hq (fun r hr => upd_other _ _ hr) (upd_same _ _ _) rfl (by omega) (Nat.le_succ N) (B4.trans BE)⟩
  have hyC := HYC.out
  have hyB := HYB.out
  have t1 : ((w4.setCell ⟨yb, q * 2, none⟩ (.pointer (some ⟨db, 0, none⟩))).setCell ⟨yb, q * 2 + 1, none⟩ (.pointer (some ⟨rb, 0, none⟩))).cell? ⟨B, 1, none⟩ = some (.int .i64 who) := (World.cell?_setCell_other _ _ _ _ (by first | (simp; done) | (simp; omega))).trans ((World.cell?_setCell_other _ _ _ _ (by first | (simp; done) | (simp; omega))).trans v1)
  have t2 : ((w4.setCell ⟨yb, q * 2, none⟩ (.pointer (some ⟨db, 0, none⟩))).setCell ⟨yb, q * 2 + 1, none⟩ (.pointer (some ⟨rb, 0, none⟩))).cell? ⟨C, 0, none⟩ = some (.pointer (some ⟨db, 0, none⟩)) := (World.cell?_setCell_other _ _ _ _ (by first | (simp; done) | (simp; omega))).trans ((World.cell?_setCell_other _ _ _ _ (by first | (simp; done) | (simp; omega))).trans u0)
  have t3 : ((w4.setCell ⟨yb, q * 2, none⟩ (.pointer (some ⟨db, 0, none⟩))).setCell ⟨yb, q * 2 + 1, none⟩ (.pointer (some ⟨rb, 0, none⟩))).cell? ⟨C, 1, none⟩ = some (.pointer (some ⟨rb, 0, none⟩)) := (World.cell?_setCell_other _ _ _ _ (by first | (simp; done) | (simp; omega))).trans ((World.cell?_setCell_other _ _ _ _ (by first | (simp; done) | (simp; omega))).trans u1)
  clear zE BE ff
  go_wp2_with fail
  go_region_held3 (fun w' => w'.cell? ⟨B, 1, none⟩ = some (.int .i64 who) ∧ w'.cell? ⟨C, 0, none⟩ = some (.pointer (some ⟨db, 0, none⟩)) ∧ w'.cell? ⟨C, 1, none⟩ = some (.pointer (some ⟨rb, 0, none⟩))) (first | exact ⟨v1, u0, u1⟩ | exact ⟨t1, t2, t3⟩) (fail)
  go_wp2_with fail
  go_ret
  obtain ⟨a', b', hA⟩ := hAE
  exact ⟨rfl, a', b', hA.drew⟩

set_option maxHeartbeats 4000000 in
theorem made_new_bad {w : World} {base yb : Nat} {s : Int} {N : Nat} {a b : Nat → Value} {T : Nat → Option PairT} {bv : Value} {es : List Ke} (h : Pz w base yb s N a b T bv es (fun _ => False)) (hbal : Bal T) (hT2 : T 2 = none) (who : Int) {q : Nat} (hq : q ≤ 1) (hwq : bits BinOp.and IntKind.i64 who 1 = (q : Int)) (hN : N ≤ 1000000000) (hes : es.length ≤ 900000000000) (k2 k4 k5 : Value) (kk : Int) (hbad : ¬ (1 ≤ kk ∧ kk ≤ 4096)) :
    Calls Try.prog 5 #[.pointer (some ⟨yb, 0, none⟩), .agg #[.int .i64 1, .int .i64 who, k2, .int .i64 kk, k4, k5]] w fun e w' => e = .returned (.bool true) ∧ ∃ a' b', Aft w w' base yb s (N + 1) a' b' (es.length + 3) := by
  have hNes : N ≤ 1000000000 ∧ es.length ≤ 900000000000 := ⟨hN, hes⟩
  clear hNes
  obtain ⟨pa, pb, epa, epb⟩ := h.ptr hq
  obtain ⟨W, hW⟩ : ∃ W, w.alloc (.cells #[.int .i64 1, .int .i64 who, k2, .int .i64 kk, k4, k5] 36) = W := ⟨_, rfl⟩
  have hbW : Below w.heap.size w W := by rw [← hW]; exact (Below.refl _ w).alloc (Nat.le_refl _) _
  have hs : W.heap.size = w.heap.size + 1 := by rw [← hW]; simp
  obtain ⟨B, hB⟩ : ∃ B, w.heap.size = B := ⟨_, rfl⟩
  obtain ⟨z0, f0⟩ := h.below hbW
  replace z0 := z0.less (P' := fun i => i = w.heap.size) (fun i hi => Or.inr (by omega))
  have B0 := f0.blw
  have o0 : W.cell? ⟨w.heap.size, 0, none⟩ = some (.int .i64 1) := by rw [← hW]; simp
  have o1 : W.cell? ⟨w.heap.size, 1, none⟩ = some (.int .i64 who) := by rw [← hW]; simp
  have o2 : W.cell? ⟨w.heap.size, 2, none⟩ = some (k2) := by rw [← hW]; simp
  have o3 : W.cell? ⟨w.heap.size, 3, none⟩ = some (.int .i64 kk) := by rw [← hW]; simp
  have o4 : W.cell? ⟨w.heap.size, 4, none⟩ = some (k4) := by rw [← hW]; simp
  have hwlt : w.heap.size < W.heap.size := by omega
  rw [hB] at z0 o0 o1 o2 o3 o4 hwlt
  have HB : Hid (w.heap.size = B) := hB
  obtain ⟨ya, yb'⟩ := z0.cell2 hq
  rw [epa] at ya
  rw [epb] at yb'
  have hyl := z0.lt
  clear h hs f0
  have hqi : (q : Int) < 2 := by omega
  have hqi0 : (0 : Int) ≤ q := by omega
  -- the local pair
  have hbX : ∀ o, Below W.heap.size W (W.alloc o) := fun o => (Below.refl _ W).alloc (Nat.le_refl _) o
  have xo1 : ∀ o, (W.alloc o).cell? ⟨B, 1, none⟩ = some (.int .i64 who) := fun o => ((hbX o).cell hwlt).trans o1
  have xya : ∀ o, (W.alloc o).cell? ⟨yb, q * 2, none⟩ = some (.pointer pa) := fun o => ((hbX o).cell hyl.1).trans ya
  have xyb : ∀ o, (W.alloc o).cell? ⟨yb, q * 2 + 1, none⟩ = some (.pointer pb) := fun o => ((hbX o).cell hyl.1).trans yb'
  go_enter Try.func5, Try.ntmps5
  go_wp2_with fail
  go_region_held3 (fun w' => w'.cell? ⟨B, 1, none⟩ = some (.int .i64 who) ∧ w'.cell? ⟨yb, q * 2, none⟩ = some (.pointer pa) ∧ w'.cell? ⟨yb, q * 2 + 1, none⟩ = some (.pointer pb)) (first | exact ⟨o1, ya, yb'⟩ | exact ⟨xo1 _, xya _, xyb _⟩) (fail)
  obtain ⟨X, hX⟩ : ∃ X, (W.alloc (.cells #[.pointer pa, .pointer pb] 28)).drew = X := ⟨_, rfl⟩
  have hbX1 : Below W.heap.size W X := by rw [← hX]; exact ⟨rfl, rfl, rfl, by simp, fun i hi => (hbX _).block i hi⟩
  have hsX : X.heap.size = W.heap.size + 1 := by rw [← hX]; simp
  obtain ⟨C, hC⟩ : ∃ C, W.heap.size = C := ⟨_, rfl⟩
  have pX0 : X.cell? ⟨W.heap.size, 0, none⟩ = some (.pointer pa) := by rw [← hX]; simp
  have pX1 : X.cell? ⟨W.heap.size, 1, none⟩ = some (.pointer pb) := by rw [← hX]; simp
  have bX : X.heap[W.heap.size]? = some (.cells #[.pointer pa, .pointer pb] 28 (0, 0)) := by rw [← hX]; exact (MapKept.heap_alloc W _).1
  obtain ⟨z1, f1⟩ := z0.below hbX1
  replace z1 := z1.less (P' := fun i => i = B ∨ i = W.heap.size) (fun i hi => hi.elim Or.inl (fun r => Or.inr (by omega)))
  have B1 := B0.trans f1.blw
  have hBC : B ≠ W.heap.size := by omega
  have x0 : X.cell? ⟨B, 0, none⟩ = some (.int .i64 1) := f1.cell rfl o0
  have x1 : X.cell? ⟨B, 1, none⟩ = some (.int .i64 who) := f1.cell rfl o1
  have x3 : X.cell? ⟨B, 3, none⟩ = some (.int .i64 kk) := f1.cell rfl o3
  have x4 : X.cell? ⟨B, 4, none⟩ = some (k4) := f1.cell rfl o4
  have xy2 : X.cell? ⟨yb, q * 2, none⟩ = some (.pointer pa) ∧ X.cell? ⟨yb, q * 2 + 1, none⟩ = some (.pointer pb) := by rw [← epa, ← epb]; exact z1.cell2 hq
  rw [hC] at pX0 pX1 bX z1 hBC
  rw [hX, hC]
  have HC : Hid (W.heap.size = C) := hC
  have hHX : Hid (X.heap.size = C + 1 ∧ B < C) := ⟨by omega, by omega⟩
  have HYB : Hid (yb ≠ B) := z1.ny (Or.inl rfl)
  have HYC : Hid (yb ≠ C) := z1.ny (Or.inr rfl)
  clear o0 o1 o2 o3 o4 ya yb' xo1 xya xyb z0 f1 hX hbX
  go_wp2_with fail
  have fX0 : ∀ j, X.frozen? ⟨C, j, none⟩ = false := fun j => by simp [World.frozen?, bX]
  have fX1 := fX0 1
  have fX00 := fX0 0
  have y3'' : ((X.setCell ⟨C, 0, none⟩ (.pointer none)).setCell ⟨C, 1, none⟩ (.pointer none)).cell? ⟨B, 3, none⟩ = some (.int .i64 kk) := (World.cell?_setCell_other _ _ _ _ (by first | (simp; done) | (simp; omega))).trans ((World.cell?_setCell_other _ _ _ _ (by first | (simp; done) | (simp; omega))).trans x3)
  go_region_held3 (fun w' => w'.cell? ⟨B, 3, none⟩ = some (.int .i64 kk)) (first | exact x3 | exact y3'') 
    (first
      | (go_at_call 10; refine (new_bad kk X.drew hbad).mono ?_; rintro e wn ⟨rfl, hwn⟩; subst wn)
      | (go_at_call 20; refine (refNew_bad kk X.drew hbad).mono ?_; rintro e wn ⟨rfl, hwn⟩; subst wn))
  have t4 : Turns (fun i => i = C) X ((X.setCell ⟨C, 0, none⟩ (.pointer none)).setCell ⟨C, 1, none⟩ (.pointer none)) := (Turns.cell X C 0 _).trans (Turns.cell _ C 1 _) (fun _ _ h => h)
  obtain ⟨z4, f4⟩ := z1.free t4 (fun i hi => Or.inr hi)
  have B4 := B1.trans f4.blw
  have hA : Aft w ((X.setCell ⟨C, 0, none⟩ (.pointer none)).setCell ⟨C, 1, none⟩ (.pointer none)) base yb s (N + 1) a b (es.length + 3) := Aft.none z4 hbal hT2 (by omega) (Nat.le_succ N) B4
  have bx4 : ((X.setCell ⟨C, 0, none⟩ (.pointer none)).setCell ⟨C, 1, none⟩ (.pointer none)).heap[C]? = some (.cells #[.pointer none, .pointer none] 28 (0, 0)) := by
    rw [heap_setCell_same _ _ _ _ _ _ (heap_setCell_same _ _ _ _ _ _ bX)]; rfl
  obtain ⟨w4, hw4⟩ : ∃ w4, (X.setCell ⟨C, 0, none⟩ (.pointer none)).setCell ⟨C, 1, none⟩ (.pointer none) = w4 := ⟨_, rfl⟩
  rw [hw4] at hA bx4 y3'' ⊢
  have u0 : w4.cell? ⟨C, 0, none⟩ = some (.pointer none) := by simp [World.cell?, bx4]
  have u1 : w4.cell? ⟨C, 1, none⟩ = some (.pointer none) := by simp [World.cell?, bx4]
  clear hw4 z4 f4 t4 bx4 z1
  go_wp2_with fail
  go_ret
  exact ⟨rfl, a, b, hA.drew⟩

end Go.Proofs.Ytejfbjjhnhlagaa
