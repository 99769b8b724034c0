/- looked, at Read, Durable, and at what is none of its kinds. -/
import Derived.Test.YtejfbjjhnhlagaaPP4
namespace Go.Proofs.Ytejfbjjhnhlagaa
open Go.RowKit Go.Maps
set_option maxRecDepth 100000

theorem rd_len {S : DevS} {k : Nat} (h : Good S k) {x : Int} (hr : rdE S k x = 0) : (rdB S x.toNat).length = 512 := by
  have hb : 0 ≤ x ∧ x < k := by
    unfold rdE at hr
    by_cases q : 0 ≤ x ∧ x < k
    · exact q
    · rw [if_pos q] at hr; omega
  unfold rdB
  cases hn : newest S.pend x.toNat with
  | none =>
    have := h.len
    simp; omega
  | some d =>
    unfold newest at hn
    rw [Option.map_eq_some_iff] at hn
    obtain ⟨p, hp, rfl⟩ := hn
    have hm := List.mem_of_find?_eq_some hp
    rw [List.mem_reverse] at hm
    exact (h.pend p hm).2.1
theorem bl_bt {w : World} {g : Nat} {bs : List Int} (h : w.heap[g]? = some (bl bs)) : w.heap[g]? = some (bt bs []) := by rw [h]; simp

set_option maxHeartbeats 4000000 in
theorem looked_other {w : World} {base yb : Nat} {s : Int} {N : Nat} {a b : Nat → Value} {T : Nat → Option PairT} {bv : Value} {es : List Ke} (h : Pz w base yb s N a b T bv es (fun _ => False)) (hbal : Bal T) (hT2 : T 2 = none) {q : Nat} (hq : q ≤ 1) {t : PairT} (ht : T q = some t) (hN : N ≤ 1000000000) (hes : es.length ≤ 900000000000) (k1 k2 k3 k4 k5 : Value) (x : Int) (h3 : x ≠ 3) (h7 : x ≠ 7) (h9 : x ≠ 9) :
    Calls Try.prog 6 #[.pointer (some ⟨yb, 0, none⟩), .agg #[.pointer (some ⟨t.db, 0, none⟩), .pointer (some ⟨t.rb, 0, none⟩)], .agg #[.int .i64 x, k1, k2, k3, k4, k5]] w fun e w' => e = .returned (.bool true) ∧ Aft w w' base yb s (N + 1) a b (es.length + 3) := by
  have hNes : N ≤ 1000000000 ∧ es.length ≤ 900000000000 := ⟨hN, hes⟩
  clear hNes
  have hSU := hbal q t ht
  obtain ⟨db, rb, S, U, k, F, R⟩ := t
  simp only at hSU
  subst hSU
  obtain ⟨W, hW⟩ : ∃ W, (w.alloc (.cells #[.pointer (some ⟨db, 0, none⟩), .pointer (some ⟨rb, 0, none⟩)] 28)).alloc (.cells #[.int .i64 x, k1, k2, k3, k4, k5] 36) = W := ⟨_, rfl⟩
  have hbW : Below w.heap.size w W := by rw [← hW]; exact alloc2 _ _ _
  have bx := Box2.new w 28 36 (.pointer (some ⟨db, 0, none⟩)) (.pointer (some ⟨rb, 0, none⟩)) (.int .i64 x) k1 k2 k3 k4 k5
  rw [hW] at bx
  have hs : W.heap.size = w.heap.size + 2 := by rw [← hW]; simp
  obtain ⟨z0, f0⟩ := h.below hbW
  replace z0 := z0.less (P' := fun i => i = w.heap.size ∨ i = w.heap.size + 1) (fun i hi => Or.inr (by omega))
  have B0 := f0.blw
  have hpn := (z0.two (by omega) ht).2.2.1.pn
  simp only at hpn
  obtain ⟨B, hB⟩ : ∃ B, w.heap.size = B := ⟨_, rfl⟩
  have HB : Hid (w.heap.size = B) := hB
  rw [hB] at bx z0
  clear h hs f0
  have p0 := bx.p0
  have o0 := bx.o0
  go_enter Try.func6, Try.ntmps6
  have hA : Aft w W base yb s (N + 1) a b (es.length + 3) := Aft.of z0 hbal hT2 hq (fun r hr => rfl) ht rfl (by omega) (Nat.le_succ N) B0
  have e3 : (x == 3) = false := by simpa using h3
  have e7 : (x == 7) = false := by simpa using h7
  have e9 : (x == 9) = false := by simpa using h9
  clear z0 bx p0
  go_wp2
  go_ret
  exact ⟨rfl, hA⟩

set_option maxHeartbeats 4000000 in
theorem looked_read_bad {w : World} {base yb : Nat} {s : Int} {N : Nat} {a b : Nat → Value} {T : Nat → Option PairT} {bv : Value} {es : List Ke} (h : Pz w base yb s N a b T bv es (fun _ => False)) (hbal : Bal T) (hT2 : T 2 = none) {q : Nat} (hq : q ≤ 1) {t : PairT} (ht : T q = some t) (hN : N ≤ 1000000000) (hes : es.length ≤ 900000000000) (k1 k3 k4 k5 : Value) (x : Int) (hrd : rdE t.S t.k x ≠ 0) :
    Calls Try.prog 6 #[.pointer (some ⟨yb, 0, none⟩), .agg #[.pointer (some ⟨t.db, 0, none⟩), .pointer (some ⟨t.rb, 0, none⟩)], .agg #[.int .i64 3, k1, .int .i64 x, k3, k4, k5]] w fun e w' => e = .returned (.bool true) ∧ Aft w w' base yb s (N + 1) a b (es.length + 3) := by
  have hNes : N ≤ 1000000000 ∧ es.length ≤ 900000000000 := ⟨hN, hes⟩
  clear hNes
  have hSU := hbal q t ht
  obtain ⟨db, rb, S, U, k, F, R⟩ := t
  simp only at hSU
  subst hSU
  obtain ⟨W, hW⟩ : ∃ W, (w.alloc (.cells #[.pointer (some ⟨db, 0, none⟩), .pointer (some ⟨rb, 0, none⟩)] 28)).alloc (.cells #[.int .i64 3, k1, .int .i64 x, k3, k4, k5] 36) = W := ⟨_, rfl⟩
  have hbW : Below w.heap.size w W := by rw [← hW]; exact alloc2 _ _ _
  have bx := Box2.new w 28 36 (.pointer (some ⟨db, 0, none⟩)) (.pointer (some ⟨rb, 0, none⟩)) (.int .i64 3) k1 (.int .i64 x) k3 k4 k5
  rw [hW] at bx
  have hs : W.heap.size = w.heap.size + 2 := by rw [← hW]; simp
  obtain ⟨z0, f0⟩ := h.below hbW
  replace z0 := z0.less (P' := fun i => i = w.heap.size ∨ i = w.heap.size + 1) (fun i hi => Or.inr (by omega))
  have B0 := f0.blw
  have hpn := (z0.two (by omega) ht).2.2.1.pn
  simp only at hpn
  obtain ⟨B, hB⟩ : ∃ B, w.heap.size = B := ⟨_, rfl⟩
  have HB : Hid (w.heap.size = B) := hB
  rw [hB] at bx z0
  clear h hs f0
  have p0 := bx.p0
  have o0 := bx.o0
  go_enter Try.func6, Try.ntmps6
  have hrd : rdE S k x ≠ 0 := hrd
  have o2 := bx.o2
  go_wp2_with fail
  refine (read_any (z0.two (by omega) ht).2.2.1 x).mono ?_
  rintro e w1 ⟨hr1, hw1⟩
  rcases hr1 with ⟨_, rfl⟩ | ⟨hz, _⟩
  case inr => exact absurd hz hrd
  obtain ⟨z1, f1⟩ := z0.same (by omega) ht hw1
  have bx1 := bx.fr f1 (Or.inl rfl) (Or.inr rfl)
  have ht1 := upd_same T q (some (⟨db, rb, S, S, k, F, R⟩ : PairT))
  have HO : Hid (∀ r, r ≠ q → upd T q (some (⟨db, rb, S, S, k, F, R⟩ : PairT)) r = T r) := fun r hr => upd_other _ _ hr
  have HE : Hid (upd T q (some (⟨db, rb, S, S, k, F, R⟩ : PairT)) q = some (⟨db, rb, S, S, k, F, R⟩ : PairT)) := ht1
  have p1 := bx1.p1
  have o2' := bx1.o2
  have rv := (z1.two (by omega) ht1).2.2.2.1
  have B1 := B0.trans f1.blw
  clear p0 o0 o2 z0 hw1
  go_wp2_with fail
  refine (refRead_any rv (by omega) x).mono ?_
  rintro e w2 ⟨hr2, hb2⟩
  rcases hr2 with ⟨_, rfl⟩ | ⟨hz, _⟩
  case inr => exact absurd hz hrd
  obtain ⟨z2, f2⟩ := z1.below hb2
  replace z2 := z2.less (P' := fun _ => False) (fun _ h => h.elim)
  have B2 := B1.trans f2.blw
  generalize upd T q (some (⟨db, rb, S, S, k, F, R⟩ : PairT)) = T2 at *
  clear p1 o2' z1 rv
  go_wp2_with fail
  refine (same_true none none 0 0 0 0 [] w2 (by omega) (Lies.nil w2) (Lies.nil w2)).mono ?_
  rintro e w3 ⟨rfl, m3, rfl⟩
  have z3 := z2.drewN m3
  have B3 : Below base w (w2.drewN m3) := below_drewN B2 m3
  obtain ⟨w4, hw4⟩ : ∃ w4, w2.drewN m3 = w4 := ⟨_, rfl⟩
  rw [hw4] at z3 B3 ⊢
  clear hw4 z2
  generalize rdE S k x = E
  go_wp2_with (first | (go_at_call 18; refine (num_id _ _).mono ?_; rintro e wn ⟨rfl, hwn⟩; subst wn))
  have zw4d : Pz w4.drew base yb s N a b T2 bv es (fun _ => False) := z3.drewN 1
  have Bd : Below base w4 w4.drew := ⟨rfl, rfl, rfl, Nat.le_refl _, fun _ _ => rfl⟩
  have c4 : w4.cell? ⟨yb, 4, none⟩ = some bv := z3.cells.2.2.2.2.1
  have HM : Hid (Calls Try.prog 25 #[.pointer (some ⟨yb, 0, none⟩)] w4.drew fun e w' => ∃ m, e = .returned (.int .u8 m) ∧ w' = w4.drew) := mark_any zw4d
  have HK : Hid (∀ m, Calls Try.prog 24 #[bv, .slice none 0 0, .int .u8 m] w4.drew fun e w' => ∃ va vn vc, e = .returned (.slice va vn vc) ∧ w'.cell? ⟨yb, 4, none⟩ = some bv ∧ w'.frozen? ⟨yb, 4, none⟩ = false ∧ (∃ fs : List Ke, fs.length = 3 ∧ Pz (w'.setCell ⟨yb, 4, none⟩ (.slice va vn vc)) base yb s N a b T2 (.slice va vn vc) (es ++ fs) (fun i => (fun _ => False) i ∧ (.slice none 0 0 : Value).ownBlock ≠ some i)) ∧ Fr (fun i => (fun _ => False) i ∧ (.slice none 0 0 : Value).ownBlock ≠ some i) base w4.drew (w'.setCell ⟨yb, 4, none⟩ (.slice va vn vc))) := fun m => keep_py zw4d (.slice none 0 0) (0) _ (World.ownsRow_nil _ _ _ _) (fun i hi => by cases hi) (by omega) (by omega) m
  go_region_law
    (first
      | (go_simp; go_at_call 25; refine HM.out.mono ?_; rintro e wn ⟨mk, rfl, hwn⟩; subst wn; dsimp only)
      | (go_simp; go_at_call 24; refine (HK.out mk).mono ?_; rintro e wK ⟨va, vn, vc, rfl, cK, fK, ⟨fs, hfs, zK⟩, fKK⟩; dsimp only))
  all_goals (
    go_wp2_with fail
    go_ret
    refine ⟨rfl, Aft.of zK hbal hT2 hq HO.out HE.out rfl (by rw [List.length_append]; omega) (Nat.le_succ N) ((B3.trans Bd).trans fKK.blw)⟩)

set_option maxHeartbeats 4000000 in
theorem looked_read_ok {w : World} {base yb : Nat} {s : Int} {N : Nat} {a b : Nat → Value} {T : Nat → Option PairT} {bv : Value} {es : List Ke} (h : Pz w base yb s N a b T bv es (fun _ => False)) (hbal : Bal T) (hT2 : T 2 = none) {q : Nat} (hq : q ≤ 1) {t : PairT} (ht : T q = some t) (hN : N ≤ 1000000000) (hes : es.length ≤ 900000000000) (k1 k3 k4 k5 : Value) (x : Int) (hrd : rdE t.S t.k x = 0) :
    Calls Try.prog 6 #[.pointer (some ⟨yb, 0, none⟩), .agg #[.pointer (some ⟨t.db, 0, none⟩), .pointer (some ⟨t.rb, 0, none⟩)], .agg #[.int .i64 3, k1, .int .i64 x, k3, k4, k5]] w fun e w' => e = .returned (.bool true) ∧ Aft w w' base yb s (N + 1) a b (es.length + 3) := by
  have hNes : N ≤ 1000000000 ∧ es.length ≤ 900000000000 := ⟨hN, hes⟩
  clear hNes
  have hSU := hbal q t ht
  obtain ⟨db, rb, S, U, k, F, R⟩ := t
  simp only at hSU
  subst hSU
  obtain ⟨W, hW⟩ : ∃ W, (w.alloc (.cells #[.pointer (some ⟨db, 0, none⟩), .pointer (some ⟨rb, 0, none⟩)] 28)).alloc (.cells #[.int .i64 3, k1, .int .i64 x, k3, k4, k5] 36) = W := ⟨_, rfl⟩
  have hbW : Below w.heap.size w W := by rw [← hW]; exact alloc2 _ _ _
  have bx := Box2.new w 28 36 (.pointer (some ⟨db, 0, none⟩)) (.pointer (some ⟨rb, 0, none⟩)) (.int .i64 3) k1 (.int .i64 x) k3 k4 k5
  rw [hW] at bx
  have hs : W.heap.size = w.heap.size + 2 := by rw [← hW]; simp
  obtain ⟨z0, f0⟩ := h.below hbW
  replace z0 := z0.less (P' := fun i => i = w.heap.size ∨ i = w.heap.size + 1) (fun i hi => Or.inr (by omega))
  have B0 := f0.blw
  have hpn := (z0.two (by omega) ht).2.2.1.pn
  simp only at hpn
  obtain ⟨B, hB⟩ : ∃ B, w.heap.size = B := ⟨_, rfl⟩
  have HB : Hid (w.heap.size = B) := hB
  rw [hB] at bx z0
  clear h hs f0
  have p0 := bx.p0
  have o0 := bx.o0
  go_enter Try.func6, Try.ntmps6
  have hrd : rdE S k x = 0 := hrd
  have o2 := bx.o2
  have hgood := (z0.two (by omega) ht).2.2.1.good
  have hlen : (rdB S x.toNat).length = 512 := rd_len hgood hrd
  go_wp2_with fail
  refine (read_any (z0.two (by omega) ht).2.2.1 x).mono ?_
  rintro e w1 ⟨hr1, hw1⟩
  rcases hr1 with ⟨hz, _⟩ | ⟨_, g, rfl, hg, hgb⟩
  case inl => exact absurd hrd hz
  obtain ⟨z1, f1⟩ := z0.same (by omega) ht hw1
  have bx1 := bx.fr f1 (Or.inl rfl) (Or.inr rfl)
  have hgl := heap_lt hgb
  replace z1 := z1.less (P' := fun i => i = g) (fun i hi => Or.inr (by omega))
  have ht1 := upd_same T q (some (⟨db, rb, S, S, k, F, R⟩ : PairT))
  have HO : Hid (∀ r, r ≠ q → upd T q (some (⟨db, rb, S, S, k, F, R⟩ : PairT)) r = T r) := fun r hr => upd_other _ _ hr
  have HE : Hid (upd T q (some (⟨db, rb, S, S, k, F, R⟩ : PairT)) q = some (⟨db, rb, S, S, k, F, R⟩ : PairT)) := ht1
  have p1 := bx1.p1
  have o2' := bx1.o2
  have rv := (z1.two (by omega) ht1).2.2.2.1
  have B1 := B0.trans f1.blw
  clear p0 o0 o2 z0 hw1
  go_wp2_with fail
  refine (refRead_any rv (by omega) x).mono ?_
  rintro e w2 ⟨hr2, hb2⟩
  rcases hr2 with ⟨hz, _⟩ | ⟨_, g2, c2, rfl, lb⟩
  case inl => exact absurd hrd hz
  obtain ⟨z2, f2⟩ := z1.below hb2
  replace z2 := z2.less (P' := fun i => i = g) (fun i hi => Or.inl hi)
  have hg2 := f2.blk rfl hgb
  have la := Lies.full hg2 hlen
  have B2 := B1.trans f2.blw
  generalize upd T q (some (⟨db, rb, S, S, k, F, R⟩ : PairT)) = T2 at *
  generalize rdB S x.toNat = D at *
  clear p1 o2' z1 rv hgb
  go_wp2_with fail
  refine (same_true (some ⟨g, 0, none⟩) (some ⟨g2, 0, none⟩) 512 512 512 c2 D w2 (by omega) la lb).mono ?_
  rintro e w3 ⟨rfl, m3, rfl⟩
  have z3 := z2.drewN m3
  have B3 : Below base w (w2.drewN m3) := below_drewN B2 m3
  have hg3 : (w2.drewN m3).heap[g]? = some (bl D) := hg2
  obtain ⟨w4, hw4⟩ : ∃ w4, w2.drewN m3 = w4 := ⟨_, rfl⟩
  rw [hw4] at z3 B3 hg3 ⊢
  clear hw4 z2 la lb hg2
  go_wp2_with (first | (go_at_call 18; refine (num_id _ _).mono ?_; rintro e wn ⟨rfl, hwn⟩; subst wn))
  have hg3d : w4.drew.heap[g]? = some (bt D []) := bl_bt hg3
  have zw4d : Pz w4.drew base yb s N a b T2 bv es (fun i => i = g) := z3.drewN 1
  have Bd : Below base w4 w4.drew := ⟨rfl, rfl, rfl, Nat.le_refl _, fun _ _ => rfl⟩
  have c4 : w4.cell? ⟨yb, 4, none⟩ = some bv := z3.cells.2.2.2.2.1
  have HM : Hid (Calls Try.prog 25 #[.pointer (some ⟨yb, 0, none⟩)] w4.drew fun e w' => ∃ m, e = .returned (.int .u8 m) ∧ w' = w4.drew) := mark_any zw4d
  have HK : Hid (∀ m, Calls Try.prog 24 #[bv, .slice (some ⟨g, 0, none⟩) 512 512, .int .u8 m] w4.drew fun e w' => ∃ va vn vc, e = .returned (.slice va vn vc) ∧ w'.cell? ⟨yb, 4, none⟩ = some bv ∧ w'.frozen? ⟨yb, 4, none⟩ = false ∧ (∃ fs : List Ke, fs.length = 3 ∧ Pz (w'.setCell ⟨yb, 4, none⟩ (.slice va vn vc)) base yb s N a b T2 (.slice va vn vc) (es ++ fs) (fun i => (fun i => i = g) i ∧ (.slice (some ⟨g, 0, none⟩) 512 512 : Value).ownBlock ≠ some i)) ∧ Fr (fun i => (fun i => i = g) i ∧ (.slice (some ⟨g, 0, none⟩) 512 512 : Value).ownBlock ≠ some i) base w4.drew (w'.setCell ⟨yb, 4, none⟩ (.slice va vn vc))) := fun m => keep_py zw4d (.slice (some ⟨g, 0, none⟩) 512 512) (512) _ (own_of_bt hg3d hlen (by decide)) (fun i hi => (Option.some.inj hi).symm) (by omega) (by omega) m
  go_region_law
    (first
      | (go_simp; go_at_call 25; refine HM.out.mono ?_; rintro e wn ⟨mk, rfl, hwn⟩; subst wn; dsimp only)
      | (go_simp; go_at_call 24; refine (HK.out mk).mono ?_; rintro e wK ⟨va, vn, vc, rfl, cK, fK, ⟨fs, hfs, zK⟩, fKK⟩; dsimp only))
  all_goals (
    go_wp2_with fail
    go_ret
    refine ⟨rfl, Aft.of zK hbal hT2 hq HO.out HE.out rfl (by rw [List.length_append]; omega) (Nat.le_succ N) ((B3.trans Bd).trans fKK.blw)⟩)

set_option maxHeartbeats 4000000 in
theorem looked_durable {w : World} {base yb : Nat} {s : Int} {N : Nat} {a b : Nat → Value} {T : Nat → Option PairT} {bv : Value} {es : List Ke} (h : Pz w base yb s N a b T bv es (fun _ => False)) (hbal : Bal T) (hT2 : T 2 = none) {q : Nat} (hq : q ≤ 1) {t : PairT} (ht : T q = some t) (hN : N ≤ 1000000000) (hes : es.length ≤ 900000000000) (k1 k2 k3 k4 k5 : Value) :
    Calls Try.prog 6 #[.pointer (some ⟨yb, 0, none⟩), .agg #[.pointer (some ⟨t.db, 0, none⟩), .pointer (some ⟨t.rb, 0, none⟩)], .agg #[.int .i64 9, k1, k2, k3, k4, k5]] w fun e w' => e = .returned (.bool true) ∧ Aft w w' base yb s (N + 1) a b (es.length + 3) := by
  have hNes : N ≤ 1000000000 ∧ es.length ≤ 900000000000 := ⟨hN, hes⟩
  clear hNes
  have hSU := hbal q t ht
  obtain ⟨db, rb, S, U, k, F, R⟩ := t
  simp only at hSU
  subst hSU
  obtain ⟨W, hW⟩ : ∃ W, (w.alloc (.cells #[.pointer (some ⟨db, 0, none⟩), .pointer (some ⟨rb, 0, none⟩)] 28)).alloc (.cells #[.int .i64 9, k1, k2, k3, k4, k5] 36) = W := ⟨_, rfl⟩
  have hbW : Below w.heap.size w W := by rw [← hW]; exact alloc2 _ _ _
  have bx := Box2.new w 28 36 (.pointer (some ⟨db, 0, none⟩)) (.pointer (some ⟨rb, 0, none⟩)) (.int .i64 9) k1 k2 k3 k4 k5
  rw [hW] at bx
  have hs : W.heap.size = w.heap.size + 2 := by rw [← hW]; simp
  obtain ⟨z0, f0⟩ := h.below hbW
  replace z0 := z0.less (P' := fun i => i = w.heap.size ∨ i = w.heap.size + 1) (fun i hi => Or.inr (by omega))
  have B0 := f0.blw
  have hpn := (z0.two (by omega) ht).2.2.1.pn
  simp only at hpn
  obtain ⟨B, hB⟩ : ∃ B, w.heap.size = B := ⟨_, rfl⟩
  have HB : Hid (w.heap.size = B) := hB
  rw [hB] at bx z0
  clear h hs f0
  have p0 := bx.p0
  have o0 := bx.o0
  go_enter Try.func6, Try.ntmps6
  have hgood := (z0.two (by omega) ht).2.2.1.good
  have hlen : S.last.length = 512 * k := hgood.len
  have htop : k ≤ 4096 := hgood.top
  go_wp2_with fail
  refine (durable_any (z0.two (by omega) ht).2.2.1).mono ?_
  rintro e w1 ⟨⟨g, rfl, hg, hgb⟩, hw1⟩
  obtain ⟨z1, f1⟩ := z0.same (by omega) ht hw1
  have bx1 := bx.fr f1 (Or.inl rfl) (Or.inr rfl)
  have hgl := heap_lt hgb
  replace z1 := z1.less (P' := fun i => i = g) (fun i hi => Or.inr (by omega))
  have ht1 := upd_same T q (some (⟨db, rb, S, S, k, F, R⟩ : PairT))
  have HO : Hid (∀ r, r ≠ q → upd T q (some (⟨db, rb, S, S, k, F, R⟩ : PairT)) r = T r) := fun r hr => upd_other _ _ hr
  have HE : Hid (upd T q (some (⟨db, rb, S, S, k, F, R⟩ : PairT)) q = some (⟨db, rb, S, S, k, F, R⟩ : PairT)) := ht1
  have p1 := bx1.p1
  have rv := (z1.two (by omega) ht1).2.2.2.1
  have B1 := B0.trans f1.blw
  clear p0 o0 z0 hw1
  go_wp2_with fail
  refine (refDurable_any rv).mono ?_
  rintro e w2 ⟨⟨g2, c2, rfl, lb⟩, hb2⟩
  obtain ⟨z2, f2⟩ := z1.below hb2
  replace z2 := z2.less (P' := fun i => i = g) (fun i hi => Or.inl hi)
  have hg2 := f2.blk rfl hgb
  have la := Lies.full hg2 hlen
  have B2 := B1.trans f2.blw
  generalize upd T q (some (⟨db, rb, S, S, k, F, R⟩ : PairT)) = T2 at *
  generalize S.last = D at *
  clear p1 z1 rv hgb
  go_wp2_with fail
  refine (same_true (some ⟨g, 0, none⟩) (some ⟨g2, 0, none⟩) (512 * k) (512 * k) (512 * k) c2 D w2 (by omega) la lb).mono ?_
  rintro e w3 ⟨rfl, m3, rfl⟩
  have z3 := z2.drewN m3
  have B3 : Below base w (w2.drewN m3) := below_drewN B2 m3
  have hg3 : (w2.drewN m3).heap[g]? = some (bl D) := hg2
  obtain ⟨w4, hw4⟩ : ∃ w4, w2.drewN m3 = w4 := ⟨_, rfl⟩
  rw [hw4] at z3 B3 hg3 ⊢
  clear hw4 z2 la lb hg2
  go_wp2_with fail
  have hg3d : w4.drew.heap[g]? = some (bt D []) := bl_bt hg3
  have zw4d : Pz w4.drew base yb s N a b T2 bv es (fun i => i = g) := z3.drewN 1
  have Bd : Below base w4 w4.drew := ⟨rfl, rfl, rfl, Nat.le_refl _, fun _ _ => rfl⟩
  have c4 : w4.cell? ⟨yb, 4, none⟩ = some bv := z3.cells.2.2.2.2.1
  have HM : Hid (Calls Try.prog 25 #[.pointer (some ⟨yb, 0, none⟩)] w4.drew fun e w' => ∃ m, e = .returned (.int .u8 m) ∧ w' = w4.drew) := mark_any zw4d
  have HK : Hid (∀ m, Calls Try.prog 24 #[bv, .slice (some ⟨g, 0, none⟩) (512 * k) (512 * k), .int .u8 m] w4.drew fun e w' => ∃ va vn vc, e = .returned (.slice va vn vc) ∧ w'.cell? ⟨yb, 4, none⟩ = some bv ∧ w'.frozen? ⟨yb, 4, none⟩ = false ∧ (∃ fs : List Ke, fs.length = 3 ∧ Pz (w'.setCell ⟨yb, 4, none⟩ (.slice va vn vc)) base yb s N a b T2 (.slice va vn vc) (es ++ fs) (fun i => (fun i => i = g) i ∧ (.slice (some ⟨g, 0, none⟩) (512 * k) (512 * k) : Value).ownBlock ≠ some i)) ∧ Fr (fun i => (fun i => i = g) i ∧ (.slice (some ⟨g, 0, none⟩) (512 * k) (512 * k) : Value).ownBlock ≠ some i) base w4.drew (w'.setCell ⟨yb, 4, none⟩ (.slice va vn vc))) := fun m => keep_py zw4d (.slice (some ⟨g, 0, none⟩) (512 * k) (512 * k)) (512 * k) _ (own_of_bt hg3d hlen (by unfold maxLen; simp; omega)) (fun i hi => (Option.some.inj hi).symm) (by omega) (by omega) m
  go_region_law
    (first
      | (go_simp; go_at_call 25; refine HM.out.mono ?_; rintro e wn ⟨mk, rfl, hwn⟩; subst wn; dsimp only)
      | (go_simp; go_at_call 24; refine (HK.out mk).mono ?_; rintro e wK ⟨va, vn, vc, rfl, cK, fK, ⟨fs, hfs, zK⟩, fKK⟩; dsimp only))
  all_goals (
    go_wp2_with fail
    go_ret
    refine ⟨rfl, Aft.of zK hbal hT2 hq HO.out HE.out rfl (by rw [List.length_append]; omega) (Nat.le_succ N) ((B3.trans Bd).trans fKK.blw)⟩)

end Go.Proofs.Ytejfbjjhnhlagaa
