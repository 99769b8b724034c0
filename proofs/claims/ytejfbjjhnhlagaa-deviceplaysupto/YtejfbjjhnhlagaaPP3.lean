/- done, at Flush, Arm, and at what is none of its kinds. -/
import Derived.Test.YtejfbjjhnhlagaaPP2
namespace Go.Proofs.Ytejfbjjhnhlagaa
open Go.RowKit Go.Maps
set_option maxRecDepth 100000

theorem Pz.up {w : World} {base yb : Nat} {s : Int} {N N' : Nat} {a b : Nat → Value} {T : Nat → Option PairT} {bv : Value} {es : List Ke} {P : Nat → Prop} (h : Pz w base yb s N a b T bv es P) (hN : N ≤ N') : Pz w base yb s N' a b T bv es P := by
  obtain ⟨L, h, hL⟩ := h
  exact ⟨L, { h with pt := fun q hq => (h.pt q hq).turns (Turns.refl (fun _ => False) w) (fun _ _ => id) hN (fun _ hi => hi) }, hL⟩
theorem alloc2 (w : World) (o1 o2 : Obj) : Below w.heap.size w ((w.alloc o1).alloc o2) := ((Below.refl _ w).alloc (Nat.le_refl _) o1).alloc (by simp) o2
/-- The boxes of a call's operands: the pair's, the step's. -/
structure Box2 (w : World) (B : Nat) (pa pb k0 k1 k2 k3 k4 k5 : Value) : Prop where
  p0 : w.cell? ⟨B, 0, none⟩ = some pa
  p1 : w.cell? ⟨B, 1, none⟩ = some pb
  o0 : w.cell? ⟨B + 1, 0, none⟩ = some k0
  o1 : w.cell? ⟨B + 1, 1, none⟩ = some k1
  o2 : w.cell? ⟨B + 1, 2, none⟩ = some k2
  o3 : w.cell? ⟨B + 1, 3, none⟩ = some k3
  o4 : w.cell? ⟨B + 1, 4, none⟩ = some k4
  o5 : w.cell? ⟨B + 1, 5, none⟩ = some k5
theorem Box2.new (w : World) (t1 t2 : TypeId) (pa pb k0 k1 k2 k3 k4 k5 : Value) : Box2 ((w.alloc (.cells #[pa, pb] t1)).alloc (.cells #[k0, k1, k2, k3, k4, k5] t2)) w.heap.size pa pb k0 k1 k2 k3 k4 k5 := by
  refine ⟨?_, ?_, ?_, ?_, ?_, ?_, ?_, ?_⟩ <;> simp
theorem Box2.fr {P : Nat → Prop} {base : Nat} {w w' : World} {B : Nat} {pa pb k0 k1 k2 k3 k4 k5 : Value} (h : Box2 w B pa pb k0 k1 k2 k3 k4 k5) (f : Fr P base w w') (h1 : P B) (h2 : P (B + 1)) : Box2 w' B pa pb k0 k1 k2 k3 k4 k5 :=
  ⟨f.cell h1 h.p0, f.cell h1 h.p1, f.cell h2 h.o0, f.cell h2 h.o1, f.cell h2 h.o2, f.cell h2 h.o3, f.cell h2 h.o4, f.cell h2 h.o5⟩

theorem RDev.wide {R : Nat → Prop} {w w' : World} {rb : Nat} {S : DevS} {k : Nat} (h : RDev w' rb S k R) (_ht : Turns R w w') : RDev w' rb S k (grow R w w') := by
  obtain ⟨gl, tl, pv, vs, h, f, hl⟩ := h
  exact ⟨gl, tl, pv, vs, h, ⟨Or.inl f.f1, Or.inl f.f2, fun b hb => Or.inl (f.f4 b hb), fun v hv => Or.inl (f.f5 v hv)⟩, fun i hi => hi.elim (hl i) (fun q => q.2)⟩
theorem Aft.of {w w2 : World} {base yb : Nat} {s : Int} {N N' : Nat} {a b : Nat → Value} {T T' : Nat → Option PairT} {bv : Value} {es : List Ke} {P : Nat → Prop} {M : Nat} (z : Pz w2 base yb s N a b T' bv es P) (hbal : Bal T) (hT2 : T 2 = none) {q : Nat} (hq : q ≤ 1) (ho : ∀ r, r ≠ q → T' r = T r) {t : PairT} (hs : T' q = some t) (he : t.S = t.U) (hM : es.length ≤ M) (hN : N ≤ N') (hB : Below base w w2) : Aft w w2 base yb s N' a b M :=
  ⟨⟨T', bv, es, (z.less (fun _ h => h.elim)).up hN, fun r u hu => by
    by_cases e : r = q
    · subst e; rw [hs] at hu; cases hu; exact he
    · rw [ho r e] at hu; exact hbal r u hu, by rw [ho 2 (by omega)]; exact hT2, hM⟩, hB⟩

set_option maxHeartbeats 4000000 in
theorem done_flush {w : World} {base yb : Nat} {s : Int} {N : Nat} {a b : Nat → Value} {T : Nat → Option PairT} {bv : Value} {es : List Ke} (h : Pz w base yb s N a b T bv es (fun _ => False)) (hbal : Bal T) (hT2 : T 2 = none) {q : Nat} (hq : q ≤ 1) {t : PairT} (ht : T q = some t) (hN : N ≤ 1000000000) (hes : es.length ≤ 900000000000) (k1 k2 k3 k4 k5 : Value) :
    Calls Try.prog 7 #[.pointer (some ⟨yb, 0, none⟩), .agg #[.pointer (some ⟨t.db, 0, none⟩), .pointer (some ⟨t.rb, 0, none⟩)], .agg #[.int .i64 5, k1, k2, k3, k4, k5]] w fun e w' => e = .returned (.bool true) ∧ Aft w w' base yb s (N + 1) a b (es.length + 3) := by
  have hNes : N ≤ 1000000000 ∧ es.length ≤ 900000000000 := ⟨hN, hes⟩
  clear hNes
  have hSU := hbal q t ht
  obtain ⟨db, rb, S, U, k, F, R⟩ := t
  simp only at hSU
  subst hSU
  obtain ⟨W, hW⟩ : ∃ W, (w.alloc (.cells #[.pointer (some ⟨db, 0, none⟩), .pointer (some ⟨rb, 0, none⟩)] 28)).alloc (.cells #[.int .i64 5, k1, k2, k3, k4, k5] 36) = W := ⟨_, rfl⟩
  have hbW : Below w.heap.size w W := by rw [← hW]; exact alloc2 _ _ _
  have bx := Box2.new w 28 36 (.pointer (some ⟨db, 0, none⟩)) (.pointer (some ⟨rb, 0, none⟩)) (.int .i64 5) k1 k2 k3 k4 k5
  rw [hW] at bx
  have hs : W.heap.size = w.heap.size + 2 := by rw [← hW]; simp
  obtain ⟨z0, f0⟩ := h.below hbW
  replace z0 := z0.less (P' := fun i => i = w.heap.size ∨ i = w.heap.size + 1) (fun i hi => Or.inr (by omega))
  have B0 := f0.blw
  have hpn := (z0.two (by omega) ht).2.2.1.pn
  simp only at hpn
  obtain ⟨B, hB⟩ : ∃ B, w.heap.size = B := ⟨_, rfl⟩
  have HB : Hid (w.heap.size = B) := hB
  rw [hB] at bx z0
  clear h hs f0
  have p0 := bx.p0
  have o0 := bx.o0
  go_enter Try.func7, Try.ntmps7
  go_wp2_with fail
  refine (flush_any (z0.two (by omega) ht).2.2.1 (by omega)).mono ?_
  rintro e w1 ⟨rfl, hw1⟩
  obtain ⟨z1, f1⟩ := z0.dev (by omega) ht hw1 (Nat.le_refl N)
  have bx1 := bx.fr f1 (Or.inl rfl) (Or.inr rfl)
  have ht1 := upd_same T q (some (⟨db, rb, flS S, S, k, grow F W w1, R⟩ : PairT))
  have p1 := bx1.p1
  clear p0 o0
  go_wp2_with fail
  refine (refFlush_any (z1.two (by omega) ht1).2.2.2.1 (by simp only; omega)).mono ?_
  rintro e w2 ⟨rfl, hw2⟩
  obtain ⟨z2, f2⟩ := z1.ref (by omega) ht1 hw2
  have hA : Aft w w2 base yb s (N + 1) a b (es.length + 3) := Aft.of z2 hbal hT2 hq (fun r hr => by rw [upd_other _ _ hr, upd_other _ _ hr]) (upd_same _ _ _) rfl (by omega) (Nat.le_succ N) ((B0.trans f1.blw).trans f2.blw)
  clear p1 hw1 hw2 z0 z1 z2 bx bx1 f1 f2
  generalize flE S = E
  go_wp2_with (first | (go_at_call 18; refine (num_id _ _).mono ?_; rintro e wn ⟨rfl, hwn⟩; subst wn))
  go_ret
  exact ⟨by simp, hA⟩

set_option maxHeartbeats 4000000 in
theorem done_arm {w : World} {base yb : Nat} {s : Int} {N : Nat} {a b : Nat → Value} {T : Nat → Option PairT} {bv : Value} {es : List Ke} (h : Pz w base yb s N a b T bv es (fun _ => False)) (hbal : Bal T) (hT2 : T 2 = none) {q : Nat} (hq : q ≤ 1) {t : PairT} (ht : T q = some t) (hN : N ≤ 1000000000) (hes : es.length ≤ 900000000000) (k1 k2 k4 k5 : Value) (x : Int) (hx : x ≤ 9223372036854775807) :
    Calls Try.prog 7 #[.pointer (some ⟨yb, 0, none⟩), .agg #[.pointer (some ⟨t.db, 0, none⟩), .pointer (some ⟨t.rb, 0, none⟩)], .agg #[.int .i64 6, k1, k2, .int .i64 x, k4, k5]] w fun e w' => e = .returned (.bool true) ∧ Aft w w' base yb s (N + 1) a b (es.length + 3) := by
  have hNes : N ≤ 1000000000 ∧ es.length ≤ 900000000000 := ⟨hN, hes⟩
  clear hNes
  have hSU := hbal q t ht
  obtain ⟨db, rb, S, U, k, F, R⟩ := t
  simp only at hSU
  subst hSU
  obtain ⟨W, hW⟩ : ∃ W, (w.alloc (.cells #[.pointer (some ⟨db, 0, none⟩), .pointer (some ⟨rb, 0, none⟩)] 28)).alloc (.cells #[.int .i64 6, k1, k2, .int .i64 x, k4, k5] 36) = W := ⟨_, rfl⟩
  have hbW : Below w.heap.size w W := by rw [← hW]; exact alloc2 _ _ _
  have bx := Box2.new w 28 36 (.pointer (some ⟨db, 0, none⟩)) (.pointer (some ⟨rb, 0, none⟩)) (.int .i64 6) k1 k2 (.int .i64 x) k4 k5
  rw [hW] at bx
  have hs : W.heap.size = w.heap.size + 2 := by rw [← hW]; simp
  obtain ⟨z0, f0⟩ := h.below hbW
  replace z0 := z0.less (P' := fun i => i = w.heap.size ∨ i = w.heap.size + 1) (fun i hi => Or.inr (by omega))
  have B0 := f0.blw
  have hpn := (z0.two (by omega) ht).2.2.1.pn
  simp only at hpn
  obtain ⟨B, hB⟩ : ∃ B, w.heap.size = B := ⟨_, rfl⟩
  have HB : Hid (w.heap.size = B) := hB
  rw [hB] at bx z0
  clear h hs f0
  have p0 := bx.p0
  have o0 := bx.o0
  go_enter Try.func7, Try.ntmps7
  have o3 := bx.o3
  go_wp2_with fail
  refine (arm_any (z0.two (by omega) ht).2.2.1 x hx).mono ?_
  rintro e w1 ⟨rfl, hw1⟩
  obtain ⟨z1, f1⟩ := z0.same (by omega) ht hw1
  have bx1 := bx.fr f1 (Or.inl rfl) (Or.inr rfl)
  have ht1 := upd_same T q (some (⟨db, rb, armed S x, S, k, F, R⟩ : PairT))
  have p1 := bx1.p1
  have o3' := bx1.o3
  clear p0 o0 o3
  go_wp2_with fail
  refine (refArm_any (z1.two (by omega) ht1).2.2.2.1 x hx).mono ?_
  rintro e w2 ⟨rfl, hw2, tw2⟩
  have hw2' : RWent w1 w2 rb (armed S x) k R := ⟨hw2.wide tw2, tw2⟩
  obtain ⟨z2, f2⟩ := z1.ref (by omega) ht1 hw2'
  have hA : Aft w w2 base yb s (N + 1) a b (es.length + 3) := Aft.of z2 hbal hT2 hq (fun r hr => by rw [upd_other _ _ hr, upd_other _ _ hr]) (upd_same _ _ _) rfl (by omega) (Nat.le_succ N) ((B0.trans f1.blw).trans f2.blw)
  clear p1 o3' hw1 hw2 hw2' z0 z1 z2 bx bx1 f1 f2 tw2
  generalize armE S x = E
  go_wp2_with (first | (go_at_call 18; refine (num_id _ _).mono ?_; rintro e wn ⟨rfl, hwn⟩; subst wn))
  go_ret
  exact ⟨by simp, hA⟩

set_option maxHeartbeats 4000000 in
theorem done_other {w : World} {base yb : Nat} {s : Int} {N : Nat} {a b : Nat → Value} {T : Nat → Option PairT} {bv : Value} {es : List Ke} (h : Pz w base yb s N a b T bv es (fun _ => False)) (hbal : Bal T) (hT2 : T 2 = none) {q : Nat} (hq : q ≤ 1) {t : PairT} (ht : T q = some t) (hN : N ≤ 1000000000) (hes : es.length ≤ 900000000000) (k1 k2 k3 k4 k5 : Value) (x : Int) (h4 : x ≠ 4) (h5 : x ≠ 5) (h6 : x ≠ 6) (h8 : x ≠ 8) :
    Calls Try.prog 7 #[.pointer (some ⟨yb, 0, none⟩), .agg #[.pointer (some ⟨t.db, 0, none⟩), .pointer (some ⟨t.rb, 0, none⟩)], .agg #[.int .i64 x, k1, k2, k3, k4, k5]] w fun e w' => e = .returned (.bool true) ∧ Aft w w' base yb s (N + 1) a b (es.length + 3) := by
  have hNes : N ≤ 1000000000 ∧ es.length ≤ 900000000000 := ⟨hN, hes⟩
  clear hNes
  have hSU := hbal q t ht
  obtain ⟨db, rb, S, U, k, F, R⟩ := t
  simp only at hSU
  subst hSU
  obtain ⟨W, hW⟩ : ∃ W, (w.alloc (.cells #[.pointer (some ⟨db, 0, none⟩), .pointer (some ⟨rb, 0, none⟩)] 28)).alloc (.cells #[.int .i64 x, k1, k2, k3, k4, k5] 36) = W := ⟨_, rfl⟩
  have hbW : Below w.heap.size w W := by rw [← hW]; exact alloc2 _ _ _
  have bx := Box2.new w 28 36 (.pointer (some ⟨db, 0, none⟩)) (.pointer (some ⟨rb, 0, none⟩)) (.int .i64 x) k1 k2 k3 k4 k5
  rw [hW] at bx
  have hs : W.heap.size = w.heap.size + 2 := by rw [← hW]; simp
  obtain ⟨z0, f0⟩ := h.below hbW
  replace z0 := z0.less (P' := fun i => i = w.heap.size ∨ i = w.heap.size + 1) (fun i hi => Or.inr (by omega))
  have B0 := f0.blw
  have hpn := (z0.two (by omega) ht).2.2.1.pn
  simp only at hpn
  obtain ⟨B, hB⟩ : ∃ B, w.heap.size = B := ⟨_, rfl⟩
  have HB : Hid (w.heap.size = B) := hB
  rw [hB] at bx z0
  clear h hs f0
  have p0 := bx.p0
  have o0 := bx.o0
  go_enter Try.func7, Try.ntmps7
  have hA : Aft w W base yb s (N + 1) a b (es.length + 3) := Aft.of z0 hbal hT2 hq (fun r hr => rfl) ht rfl (by omega) (Nat.le_succ N) B0
  have e4 : (x == 4) = false := by simpa using h4
  have e5 : (x == 5) = false := by simpa using h5
  have e6 : (x == 6) = false := by simpa using h6
  have e8 : (x == 8) = false := by simpa using h8
  clear z0 bx p0
  go_wp2
  go_ret
  exact ⟨rfl, hA⟩
end Go.Proofs.Ytejfbjjhnhlagaa
