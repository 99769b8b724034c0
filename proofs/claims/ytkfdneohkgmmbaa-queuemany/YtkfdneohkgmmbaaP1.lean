/- A queue and the document's beside it: plays, by its contract. -/
import Derived.Test.YtkfdneohkgmmbaaQ4r
import Derived.Test.YtkfdneohkgmmbaaR1
namespace Go.Proofs.Ytkfdneohkgmmbaa
open Go.RowKit
set_option maxRecDepth 100000

/-- A queue and the document's hold the same. -/
structure Pr (w : World) (lab : Nat → Nat) (kq kr qb rb P : Nat) (L : List (List Int)) : Prop where
  q : ∃ nx la, Qu KI w lab kq qb P nx L ∧ Ru KR w lab kr rb P la L ∧ nx = (la + 1) % L.length
/-- What a step of a pair turns, and whose the new blocks are. -/
structure Wnt (w w' : World) (lab lab' : Nat → Nat) (kq kr kl : Nat) : Prop where
  t : Turns (fun i => lab i = kq ∨ lab i = kr) w w'
  o : ∀ i, i < w.heap.size → lab' i = lab i
  n : ∀ i, w.heap.size ≤ i → lab' i = kq ∨ lab' i = kr ∨ lab' i = kl
theorem Wnt.refl (w : World) (lab : Nat → Nat) (kq kr kl : Nat) : Wnt w w lab (rl lab w kl) kq kr kl := ⟨Turns.refl _ _, fun _ hi => rl_old hi, fun _ hi => Or.inr (Or.inr (rl_new hi))⟩
theorem Wnt.trans {a b c : World} {l1 l2 l3 : Nat → Nat} {kq kr kl : Nat} (h : Wnt a b l1 l2 kq kr kl) (k : Wnt b c l2 l3 kq kr kl) : Wnt a c l1 l3 kq kr kl :=
  ⟨h.t.trans k.t (fun i hi q => by rwa [h.o i hi] at q), fun i hi => (k.o i (Nat.lt_of_lt_of_le hi h.t.size)).trans (h.o i hi), fun i hi => by
    rcases Nat.lt_or_ge i b.heap.size with r | r
    · rw [k.o i r]; exact h.n i hi
    · exact k.n i r⟩
theorem Wnt.sq {w w' : World} {lab : Nat → Nat} {kq kr kl : Nat} (t : Turns (fun i => lab i = kq) w w') : Wnt w w' lab (rl lab w kq) kq kr kl := ⟨t.mono (fun _ _ q => Or.inl q), fun _ hi => rl_old hi, fun _ hi => Or.inl (rl_new hi)⟩
theorem Wnt.sr {w w' : World} {lab : Nat → Nat} {kq kr kl : Nat} (t : Turns (fun i => lab i = kr) w w') : Wnt w w' lab (rl lab w kr) kq kr kl := ⟨t.mono (fun _ _ q => Or.inr q), fun _ hi => rl_old hi, fun _ hi => Or.inr (Or.inl (rl_new hi))⟩
theorem Wnt.sb {w w' : World} {lab : Nat → Nat} {kq kr kl : Nat} (b : Below w.heap.size w w') : Wnt w w' lab (rl lab w kl) kq kr kl := ⟨Below.turns b _, fun _ hi => rl_old hi, fun _ hi => Or.inr (Or.inr (rl_new hi))⟩
theorem Bk.went {w0 w w' : World} {lab lab' : Nat → Nat} {kq kr kl : Nat} (h : Bk w0 lab w) (g : Wnt w w' lab lab' kq kr kl) (h1 : kq ≠ 0) (h2 : kr ≠ 0) : Bk w0 lab' w' :=
  ⟨h.b.trans ((g.t.mono (G := fun i => (lab i = kq ∨ lab i = kr) ∧ w0.heap.size ≤ i) (fun i _ q => ⟨q, by
    rcases Nat.lt_or_ge i w0.heap.size with r | r
    · rw [h.z i r] at q; rcases q with q | q
      · exact absurd q.symm h1
      · exact absurd q.symm h2
    · exact r⟩)).below (fun _ q => q.2) h.b.size), fun i hi => by rw [g.o i (Nat.lt_of_lt_of_le hi h.b.size)]; exact h.z i hi⟩
/-- Another pair's step leaves it. -/
theorem Pr.other {w w' : World} {lab lab' : Nat → Nat} {jq jr kq kr kl qb rb P : Nat} {L : List (List Int)} (h : Pr w lab jq jr qb rb P L) (g : Wnt w w' lab lab' kq kr kl) (h1 : jq ≠ kq ∧ jq ≠ kr) (h2 : jr ≠ kq ∧ jr ≠ kr) : Pr w' lab' jq jr qb rb P L := by
  obtain ⟨nx, la, q, r, e⟩ := h.q
  refine ⟨nx, la, q.turns g.t (fun i _ hl hf => ?_) (fun i hi => g.o i hi), ?_, e⟩
  · rcases hf with hf | hf
    · exact h1.1 (hl.symm.trans hf)
    · exact h1.2 (hl.symm.trans hf)
  · obtain ⟨wb, vs, r⟩ := r
    refine ⟨wb, vs, r.turns g.t (fun i _ hl hf => ?_) (fun i hi => g.o i hi)⟩
    rcases hf with hf | hf
    · exact h2.1 (hl.symm.trans hf)
    · exact h2.2 (hl.symm.trans hf)
theorem Pr.below {w w' : World} {lab : Nat → Nat} {jq jr qb rb P : Nat} {L : List (List Int)} (h : Pr w lab jq jr qb rb P L) (b : Below w.heap.size w w') (k : Nat) : Pr w' (rl lab w k) jq jr qb rb P L := by
  obtain ⟨nx, la, q, r, e⟩ := h.q
  exact ⟨nx, la, q.below b k, by obtain ⟨wb, vs, r⟩ := r; exact ⟨wb, vs, r.below b k⟩, e⟩
/-- The two boxes of plays' own parameters. -/
structure Bx (w : World) (lab : Nat → Nat) (kl pb qb rb : Nat) (K W A B : Int) : Prop where
  p : w.heap[pb]? = some (.cells #[.pointer (some ⟨qb, 0, none⟩), .pointer (some ⟨rb, 0, none⟩)] 55)
  o : w.heap[pb + 1]? = some (.cells #[.int .i64 K, .int .i64 W, .int .i64 A, .int .i64 B] 61)
  lp : lab pb = kl
  lo : lab (pb + 1) = kl
theorem Bx.turns {w w' : World} {lab : Nat → Nat} {kl k pb qb rb : Nat} {K W A B : Int} (h : Bx w lab kl pb qb rb K W A B) (t : Turns (fun i => lab i = k) w w') (hk : kl ≠ k) : Bx w' (rl lab w k) kl pb qb rb K W A B :=
  ⟨(t.block _ (heap_lt h.p) (fun q => hk (h.lp.symm.trans q))).trans h.p, (t.block _ (heap_lt h.o) (fun q => hk (h.lo.symm.trans q))).trans h.o, (rl_old (heap_lt h.p)).trans h.lp, (rl_old (heap_lt h.o)).trans h.lo⟩
theorem Bx.below {w w' : World} {lab : Nat → Nat} {kl pb qb rb : Nat} {K W A B : Int} (h : Bx w lab kl pb qb rb K W A B) (b : Below w.heap.size w w') (k : Nat) : Bx w' (rl lab w k) kl pb qb rb K W A B :=
  ⟨(b.block _ (heap_lt h.p)).trans h.p, (b.block _ (heap_lt h.o)).trans h.o, (rl_old (heap_lt h.p)).trans h.lp, (rl_old (heap_lt h.o)).trans h.lo⟩
theorem Bx.cells {w : World} {lab : Nat → Nat} {kl pb qb rb : Nat} {K W A B : Int} (h : Bx w lab kl pb qb rb K W A B) : w.cell? ⟨pb, 0, none⟩ = some (.pointer (some ⟨qb, 0, none⟩)) ∧ w.cell? ⟨pb, 1, none⟩ = some (.pointer (some ⟨rb, 0, none⟩)) ∧ w.cell? ⟨pb + 1, 2, none⟩ = some (.int .i64 A) ∧ w.cell? ⟨pb + 1, 3, none⟩ = some (.int .i64 B) := by
  refine ⟨?_, ?_, ?_, ?_⟩ <;> simp [World.cell?, h.p, h.o]
theorem Bx.drew {w : World} {lab : Nat → Nat} {kl pb qb rb : Nat} {K W A B : Int} (h : Bx w lab kl pb qb rb K W A B) (m : Nat) : Bx (w.drewN m) lab kl pb qb rb K W A B := ⟨h.p, h.o, h.lp, h.lo⟩
theorem Wnt.drew {w w' : World} {lab lab' : Nat → Nat} {kq kr kl : Nat} (h : Wnt w w' lab lab' kq kr kl) (m : Nat) : Wnt w (w'.drewN m) lab lab' kq kr kl := ⟨⟨h.t.os, h.t.tape, h.t.output, h.t.size, h.t.block⟩, h.o, h.n⟩
/-- A list that the caller just made: it fills its block. -/
structure Fl (v : Value) (m : Nat) (ao : Option Addr) : Prop where
  v : v = .slice ao m m
  n : ao = none → m = 0
/-- What plays leaves. -/
structure Pld (w w' : World) (lab : Nat → Nat) (kq kr kl qb rb P n : Nat) (lv : Value) : Prop where
  x : ∃ lab' L' xs, Pr w' lab' kq kr qb rb P L' ∧ L'.length = n ∧ Wnt w w' lab lab' kq kr kl ∧ w'.ownsRow w.heap.size 3 1 lv (List.length xs) (List.map (Value.int .i64) xs) ∧ (∀ b, lv.ownBlock = some b → lab' b = kl) ∧ List.length xs ≤ 64 ∧ ∃ ao, Fl lv (List.length xs) ao
theorem Pld.none {w w' : World} {lab lab' : Nat → Nat} {kq kr kl qb rb P : Nat} {L' : List (List Int)} {n : Nat} (h : Pr w' lab' kq kr qb rb P L') (hn : L'.length = n) (g : Wnt w w' lab lab' kq kr kl) : Pld w w' lab kq kr kl qb rb P n (.slice .none 0 0) :=
  ⟨lab', L', [], h, hn, g, World.ownsRow_nil _ _ _ _, fun b hb => (by cases hb), by simp, .none, rfl, fun _ => rfl⟩
/-- The start: the boxes are made. -/
theorem bx_start (w : World) (lab : Nat → Nat) (kl qb rb : Nat) (K W A B : Int) :
    Below w.heap.size w ((w.alloc (.cells #[.pointer (some ⟨qb, 0, none⟩), .pointer (some ⟨rb, 0, none⟩)] 55)).alloc (.cells #[.int .i64 K, .int .i64 W, .int .i64 A, .int .i64 B] 61)) ∧
    Bx ((w.alloc (.cells #[.pointer (some ⟨qb, 0, none⟩), .pointer (some ⟨rb, 0, none⟩)] 55)).alloc (.cells #[.int .i64 K, .int .i64 W, .int .i64 A, .int .i64 B] 61)) (rl lab w kl) kl w.heap.size qb rb K W A B := by
  refine ⟨((Below.refl _ w).alloc (Nat.le_refl _) _).alloc (by simp) _, ?_, ?_, rl_new (Nat.le_refl _), rl_new (by omega)⟩
  · rw [Below.heap_alloc _ _ _ (by simp), heap_alloc_new]
  · have := heap_alloc_new (w.alloc (.cells #[.pointer (some ⟨qb, 0, none⟩), .pointer (some ⟨rb, 0, none⟩)] 55)) (.cells #[.int .i64 K, .int .i64 W, .int .i64 A, .int .i64 B] 61)
    simpa using this

-- PLAYS
set_option maxHeartbeats 4000000 in
theorem plays2 {w : World} {lab : Nat → Nat} {kq kr kl qb rb P : Nat} {L : List (List Int)} (h : Pr w lab kq kr qb rb P L) (h1 : kq ≠ kr) (h2 : kl ≠ kq) (h3 : kl ≠ kr) (W A B : Int) :
    Calls Try.prog 24 #[.agg #[.pointer (some ⟨qb, 0, none⟩), .pointer (some ⟨rb, 0, none⟩)], .agg #[.int .i64 2, .int .i64 W, .int .i64 A, .int .i64 B]] w fun e w' => ∃ lv, e = .returned (.tuple #[.bool true, lv]) ∧ Pld w w' lab kq kr kl qb rb P L.length lv := by
  have h1' := h1.symm
  obtain ⟨bS, x0⟩ := bx_start w lab kl qb rb 2 W A B
  have p0 := h.below bS kl
  have g0 : Wnt w _ lab (rl lab w kl) kq kr kl := Wnt.sb bS
  obtain ⟨nx, la, q0, r0, e0⟩ := p0.q
  have E0 : Hid (nx = (la + 1) % L.length) := e0
  clear e0 h p0 bS
  go_enter Try.func24, Try.ntmps24
  go_wp2_with fail
  obtain ⟨W0, hW0⟩ : ∃ x, (w.alloc (.cells #[.pointer (some ⟨qb, 0, none⟩), .pointer (some ⟨rb, 0, none⟩)] 55)).alloc (.cells #[.int .i64 2, .int .i64 W, .int .i64 A, .int .i64 B] 61) = x := ⟨_, rfl⟩
  rw [hW0] at x0 q0 r0 g0 ⊢
  obtain ⟨l0, hl0⟩ : ∃ x, rl lab w kl = x := ⟨_, rfl⟩
  rw [hl0] at x0 q0 r0 g0
  clear hW0 hl0
  by_cases hc : A < 0 ∨ (L.length : Int) ≤ A
  · obtain ⟨y0_0, y1_0, y2_0, y3_0⟩ := x0.cells
    refine (pushNI q0 A B hc).mono ?_
    rintro e wn ⟨rfl, hwn⟩
    subst wn
    go_wp2_with fail
    refine (rpush_no r0 A B hc).mono ?_
    rintro e wn ⟨rfl, hwn⟩
    subst wn
    go_wp2_with (go_at_call 14; refine (num_any _ _).mono ?_; rintro e wn ⟨rfl, hwn⟩; subst wn)
    go_ret2
    exact ⟨_, rfl, Pld.none ⟨nx, la, q0, r0, E0.out⟩ rfl g0⟩
  · obtain ⟨c, rfl⟩ := Int.eq_ofNat_of_zero_le (show 0 ≤ A by omega)
    have hcl : c < L.length := by omega
    clear hc
    by_cases hf : L[c].length = P
    · refine (pushFI q0 c B hcl hf).mono ?_
      rintro e wn ⟨rfl, m1, rfl⟩
      have q1 := q0.drew m1
      have r1 := r0.drew m1
      have x1 := x0.drew m1
      have g1 := g0.drew m1
      obtain ⟨w1, hw1⟩ : ∃ x, W0.drewN m1 = x := ⟨_, rfl⟩
      rw [hw1] at q1 r1 x1 g1 ⊢
      clear hw1 q0 r0 x0 g0
      obtain ⟨y0_1, y1_1, y2_1, y3_1⟩ := x1.cells
      go_wp2_with fail
      refine (rpush_full r1 c B hcl hf).mono ?_
      rintro e wn ⟨rfl, m2, rfl⟩
      go_wp2_with (go_at_call 14; refine (num_any _ _).mono ?_; rintro e wn ⟨rfl, hwn⟩; subst wn)
      go_ret2
      exact ⟨_, rfl, Pld.none ⟨nx, la, q1.drew m2, r1.drew m2, E0.out⟩ rfl (g1.drew m2)⟩
    · have hle := q0.le c hcl
      have hf2 : L[c].length < P := by omega
      clear hle hf
      refine (pushI q0 c B hcl hf2).mono ?_
      rintro e w1 ⟨rfl, q1, t1⟩
      have r1 := r0.other t1 h1'
      have x1 := x0.turns t1 h2
      have g1 := g0.trans (Wnt.sq t1)
      generalize rl l0 W0 kq = l1 at q1 r1 x1 g1
      clear q0 x0 g0 t1
      obtain ⟨y0_1, y1_1, y2_1, y3_1⟩ := x1.cells
      go_wp2_with fail
      refine (rpush_ok r1 c B hcl hf2).mono ?_
      rintro e w2 ⟨rfl, r2, t2⟩
      have q2 := q1.other t2 h1
      have x2 := x1.turns t2 h3
      have g2 := g1.trans (Wnt.sr t2)
      generalize rl l1 w1 kr = l2 at q2 r2 x2 g2
      clear t2 r0 r1 q1 x1 g1
      go_wp2_with (go_at_call 14; refine (num_any _ _).mono ?_; rintro e wn ⟨rfl, hwn⟩; subst wn)
      go_ret2
      exact ⟨_, rfl, Pld.none ⟨nx, la, q2, r2, by rw [List.length_set]; exact E0.out⟩ (by simp) g2⟩
set_option maxHeartbeats 4000000 in
theorem plays3 {w : World} {lab : Nat → Nat} {kq kr kl qb rb P : Nat} {L : List (List Int)} (h : Pr w lab kq kr qb rb P L) (h1 : kq ≠ kr) (h2 : kl ≠ kq) (h3 : kl ≠ kr) (W A B : Int) :
    Calls Try.prog 24 #[.agg #[.pointer (some ⟨qb, 0, none⟩), .pointer (some ⟨rb, 0, none⟩)], .agg #[.int .i64 3, .int .i64 W, .int .i64 A, .int .i64 B]] w fun e w' => ∃ lv, e = .returned (.tuple #[.bool true, lv]) ∧ Pld w w' lab kq kr kl qb rb P L.length lv := by
  have h1' := h1.symm
  obtain ⟨bS, x0⟩ := bx_start w lab kl qb rb 3 W A B
  have p0 := h.below bS kl
  have g0 : Wnt w _ lab (rl lab w kl) kq kr kl := Wnt.sb bS
  obtain ⟨nx, la, q0, r0, e0⟩ := p0.q
  have E0 : Hid (nx = (la + 1) % L.length) := e0
  clear e0 h p0 bS
  go_enter Try.func24, Try.ntmps24
  go_wp2_with fail
  obtain ⟨W0, hW0⟩ : ∃ x, (w.alloc (.cells #[.pointer (some ⟨qb, 0, none⟩), .pointer (some ⟨rb, 0, none⟩)] 55)).alloc (.cells #[.int .i64 3, .int .i64 W, .int .i64 A, .int .i64 B] 61) = x := ⟨_, rfl⟩
  rw [hW0] at x0 q0 r0 g0 ⊢
  obtain ⟨l0, hl0⟩ : ∃ x, rl lab w kl = x := ⟨_, rfl⟩
  rw [hl0] at x0 q0 r0 g0
  clear hW0 hl0
  by_cases ht : tot L = 0
  · obtain ⟨y0_0, y1_0, y2_0, y3_0⟩ := x0.cells
    refine (pop_noI q0 (tot_zero ht)).mono ?_
    rintro e wn ⟨rfl, hwn⟩
    subst wn
    go_wp2_with fail
    refine (rpop_no r0 (tot_zero ht)).mono ?_
    rintro e wn ⟨rfl, hwn⟩
    subst wn
    go_wp2_with fail
    go_ret2
    exact ⟨_, rfl, Pld.none ⟨nx, la, q0, r0, E0.out⟩ rfl g0⟩
  · obtain ⟨i, c, x, l, hc, p1, p2, p3, p4, -, hpp⟩ := pop_some q0 (by omega)
    have hm : ∀ j, (la + 1 + j) % L.length = (nx + j) % L.length := fun j => by rw [E0.out, Nat.mod_add_mod]
    have p2' : (la + 1 + i) % L.length = c := (hm i).trans p2
    have p3' : ∀ j, j < i → L.getD ((la + 1 + j) % L.length) [] = [] := fun j hj => by rw [hm j]; exact p3 j hj
    clear hm p2 p3 ht E0
    refine (hpp).mono ?_
    rintro e w1 ⟨rfl, q1, t1⟩
    have r1 := r0.other t1 h1'
    have x1 := x0.turns t1 h2
    have g1 := g0.trans (Wnt.sq t1)
    generalize rl l0 W0 kq = l1 at q1 r1 x1 g1
    clear q0 x0 g0 t1 hpp
    obtain ⟨y0_1, y1_1, y2_1, y3_1⟩ := x1.cells
    go_wp2_with fail
    refine (rpop_ok r1 i c p1 hc p2' p3' x l p4).mono ?_
    rintro e w2 ⟨rfl, r2, t2⟩
    have q2 := q1.other t2 h1
    have x2 := x1.turns t2 h3
    have g2 := g1.trans (Wnt.sr t2)
    generalize rl l1 w1 kr = l2 at q2 r2 x2 g2
    clear t2 r0 r1 q1 x1 g1 p2' p3' p4
    go_wp2_with fail
    go_ret2
    exact ⟨_, rfl, Pld.none ⟨_, c, q2, r2, by rw [List.length_set]⟩ (by simp) g2⟩
set_option maxHeartbeats 4000000 in
theorem plays4 {w : World} {lab : Nat → Nat} {kq kr kl qb rb P : Nat} {L : List (List Int)} (h : Pr w lab kq kr qb rb P L) (h1 : kq ≠ kr) (_ : kl ≠ kq) (_ : kl ≠ kr) (W A B : Int) :
    Calls Try.prog 24 #[.agg #[.pointer (some ⟨qb, 0, none⟩), .pointer (some ⟨rb, 0, none⟩)], .agg #[.int .i64 4, .int .i64 W, .int .i64 A, .int .i64 B]] w fun e w' => ∃ lv, e = .returned (.tuple #[.bool true, lv]) ∧ Pld w w' lab kq kr kl qb rb P L.length lv := by
  have h1' := h1.symm
  obtain ⟨bS, x0⟩ := bx_start w lab kl qb rb 4 W A B
  have p0 := h.below bS kl
  have g0 : Wnt w _ lab (rl lab w kl) kq kr kl := Wnt.sb bS
  obtain ⟨nx, la, q0, r0, e0⟩ := p0.q
  have E0 : Hid (nx = (la + 1) % L.length) := e0
  clear e0 h p0 bS
  go_enter Try.func24, Try.ntmps24
  go_wp2_with fail
  obtain ⟨W0, hW0⟩ : ∃ x, (w.alloc (.cells #[.pointer (some ⟨qb, 0, none⟩), .pointer (some ⟨rb, 0, none⟩)] 55)).alloc (.cells #[.int .i64 4, .int .i64 W, .int .i64 A, .int .i64 B] 61) = x := ⟨_, rfl⟩
  rw [hW0] at x0 q0 r0 g0 ⊢
  obtain ⟨l0, hl0⟩ : ∃ x, rl lab w kl = x := ⟨_, rfl⟩
  rw [hl0] at x0 q0 r0 g0
  clear hW0 hl0
  by_cases hc : A < 0 ∨ (L.length : Int) ≤ A
  · obtain ⟨y0_0, y1_0, y2_0, y3_0⟩ := x0.cells
    refine (len_no q0 A hc).mono ?_
    rintro e wn ⟨rfl, hwn⟩
    subst wn
    go_wp2_with fail
    refine (rlen_no r0 A hc).mono ?_
    rintro e wn ⟨rfl, hwn⟩
    subst wn
    go_wp2_with fail
    refine (total_ok q0).mono ?_
    rintro e wn ⟨rfl, hwn⟩
    subst wn
    go_wp2_with fail
    refine (rtotal_ok r0).mono ?_
    rintro e wn ⟨rfl, hwn⟩
    subst wn
    go_wp2_with fail
    go_ret2
    exact ⟨_, rfl, Pld.none ⟨nx, la, q0, r0, E0.out⟩ rfl g0⟩
  · obtain ⟨c, rfl⟩ := Int.eq_ofNat_of_zero_le (show 0 ≤ A by omega)
    have hcl : c < L.length := by omega
    clear hc
    obtain ⟨y0_0, y1_0, y2_0, y3_0⟩ := x0.cells
    refine (len_ok q0 c hcl).mono ?_
    rintro e wn ⟨rfl, hwn⟩
    subst wn
    go_wp2_with fail
    refine (rlen_ok r0 c hcl).mono ?_
    rintro e w1 ⟨rfl, b1⟩
    have q1 := q0.below b1 kl
    have r1 := r0.below b1 kl
    have x1 := x0.below b1 kl
    have g1 := g0.trans (Wnt.sb b1)
    generalize rl l0 W0 kl = l1 at q1 r1 x1 g1
    clear q0 r0 x0 g0 b1 y0_0 y1_0 y2_0 y3_0
    obtain ⟨y0_1, y1_1, y2_1, y3_1⟩ := x1.cells
    go_wp2_with fail
    refine (total_ok q1).mono ?_
    rintro e wn ⟨rfl, hwn⟩
    subst wn
    go_wp2_with fail
    refine (rtotal_ok r1).mono ?_
    rintro e wn ⟨rfl, hwn⟩
    subst wn
    go_wp2_with fail
    go_ret2
    exact ⟨_, rfl, Pld.none ⟨nx, la, q1, r1, E0.out⟩ rfl g1⟩
set_option maxHeartbeats 4000000 in
theorem plays5 {w : World} {lab : Nat → Nat} {kq kr kl qb rb P : Nat} {L : List (List Int)} (h : Pr w lab kq kr qb rb P L) (h1 : kq ≠ kr) (_ : kl ≠ kq) (_ : kl ≠ kr) (W A B : Int) :
    Calls Try.prog 24 #[.agg #[.pointer (some ⟨qb, 0, none⟩), .pointer (some ⟨rb, 0, none⟩)], .agg #[.int .i64 5, .int .i64 W, .int .i64 A, .int .i64 B]] w fun e w' => ∃ lv, e = .returned (.tuple #[.bool true, lv]) ∧ Pld w w' lab kq kr kl qb rb P L.length lv := by
  have h1' := h1.symm
  obtain ⟨bS, x0⟩ := bx_start w lab kl qb rb 5 W A B
  have p0 := h.below bS kl
  have g0 : Wnt w _ lab (rl lab w kl) kq kr kl := Wnt.sb bS
  obtain ⟨nx, la, q0, r0, e0⟩ := p0.q
  have E0 : Hid (nx = (la + 1) % L.length) := e0
  clear e0 h p0 bS
  go_enter Try.func24, Try.ntmps24
  go_wp2_with fail
  obtain ⟨W0, hW0⟩ : ∃ x, (w.alloc (.cells #[.pointer (some ⟨qb, 0, none⟩), .pointer (some ⟨rb, 0, none⟩)] 55)).alloc (.cells #[.int .i64 5, .int .i64 W, .int .i64 A, .int .i64 B] 61) = x := ⟨_, rfl⟩
  rw [hW0] at x0 q0 r0 g0 ⊢
  obtain ⟨l0, hl0⟩ : ∃ x, rl lab w kl = x := ⟨_, rfl⟩
  rw [hl0] at x0 q0 r0 g0
  clear hW0 hl0
  by_cases hc : A < 0 ∨ (L.length : Int) ≤ A
  · obtain ⟨y0_0, y1_0, y2_0, y3_0⟩ := x0.cells
    refine (each_no q0 A hc).mono ?_
    rintro e wn ⟨rfl, hwn⟩
    subst wn
    go_wp2_with fail
    refine (reach_no r0 A hc).mono ?_
    rintro e wn ⟨rfl, hwn⟩
    subst wn
    go_wp2_with fail
    refine (sameI_any none none 0 0 0 0 [] [] W0 (by omega) (Li.nil _) (Li.nil _)).mono ?_
    rintro e wn ⟨rfl, m2, rfl⟩
    go_wp2_with fail
    go_ret2
    exact ⟨_, rfl, Pld.none ⟨nx, la, q0.drew m2, r0.drew m2, E0.out⟩ rfl (g0.drew m2)⟩
  · obtain ⟨c, rfl⟩ := Int.eq_ofNat_of_zero_le (show 0 ≤ A by omega)
    have hcl : c < L.length := by omega
    clear hc
    have hle := q0.le c hcl
    have hP := q0.hP
    have hz0 := g0.t.size
    refine (each_ok q0 c hcl).mono ?_
    rintro e w1 ⟨g, rfl, o1, b1⟩
    have q1 := q0.below b1 kl
    have r1 := r0.below b1 kl
    have x1 := x0.below b1 kl
    have g1 := g0.trans (Wnt.sb b1)
    have lb1 : ∀ b, (Value.slice (some ⟨g, 0, none⟩) L[c].length L[c].length).ownBlock = some b → rl l0 W0 kl b = kl := fun b hb => rl_new (own_ge o1 hb)
    replace o1 := ownsRow_mono o1 hz0
    generalize rl l0 W0 kl = l1 at q1 r1 x1 g1 lb1
    clear q0 r0 x0 g0 b1
    obtain ⟨y0_1, y1_1, y2_1, y3_1⟩ := x1.cells
    go_wp2_with fail
    refine (reach_ok r1 c hcl).mono ?_
    rintro e w2 ⟨a2, c2, rfl, o2, b2⟩
    have q2 := q1.below b2 kl
    have r2 := r1.below b2 kl
    have x2 := x1.below b2 kl
    have g2 := g1.trans (Wnt.sb b2)
    have lb2 : ∀ b, (Value.slice (some ⟨g, 0, none⟩) L[c].length L[c].length).ownBlock = some b → rl l1 w1 kl b = kl := fun b hb => (rl_old (own_lt o1 hb)).trans (lb1 b hb)
    replace o1 := own_later o1 b2
    generalize rl l1 w1 kl = l2 at q2 r2 x2 g2 lb2
    clear q1 r1 x1 g1 lb1 b2
    go_wp2_with fail
    refine (sameI_any _ _ _ _ _ _ L[c] L[c] w2 (by omega) (Li.own o1) (by obtain ⟨a, b, e, hh⟩ := Li.row o2; cases e; exact hh)).mono ?_
    rintro e wn ⟨rfl, m3, rfl⟩
    go_wp2_with fail
    go_ret2
    exact ⟨_, by simp, l2, L, L[c], ⟨nx, la, q2.drew m3, r2.drew m3, E0.out⟩, rfl, g2.drew m3, o1, lb2, by omega, _, rfl, fun h => (by cases h)⟩
set_option maxHeartbeats 4000000 in
theorem plays6 {w : World} {lab : Nat → Nat} {kq kr kl qb rb P : Nat} {L : List (List Int)} (h : Pr w lab kq kr qb rb P L) (K : Int) (k2 : ¬ K = 2) (k3 : ¬ K = 3) (k4 : ¬ K = 4) (k5 : ¬ K = 5) (W A B : Int) :
    Calls Try.prog 24 #[.agg #[.pointer (some ⟨qb, 0, none⟩), .pointer (some ⟨rb, 0, none⟩)], .agg #[.int .i64 K, .int .i64 W, .int .i64 A, .int .i64 B]] w fun e w' => ∃ lv, e = .returned (.tuple #[.bool true, lv]) ∧ Pld w w' lab kq kr kl qb rb P L.length lv := by
  obtain ⟨bS, -⟩ := bx_start w lab kl qb rb K W A B
  have p0 := h.below bS kl
  have g0 : Wnt w _ lab (rl lab w kl) kq kr kl := Wnt.sb bS
  obtain ⟨nx, la, q0, r0, e0⟩ := p0.q
  have E0 : Hid (nx = (la + 1) % L.length) := e0
  clear e0 h p0 bS
  go_enter Try.func24, Try.ntmps24
  go_wp2_with fail
  go_ret2
  exact ⟨_, rfl, Pld.none ⟨nx, la, q0, r0, E0.out⟩ rfl g0⟩
theorem plays_any {w : World} {lab : Nat → Nat} {kq kr kl qb rb P : Nat} {L : List (List Int)} (h : Pr w lab kq kr qb rb P L) (h1 : kq ≠ kr) (h2 : kl ≠ kq) (h3 : kl ≠ kr) (K W A B : Int) :
    Calls Try.prog 24 #[.agg #[.pointer (some ⟨qb, 0, none⟩), .pointer (some ⟨rb, 0, none⟩)], .agg #[.int .i64 K, .int .i64 W, .int .i64 A, .int .i64 B]] w fun e w' => ∃ lv, e = .returned (.tuple #[.bool true, lv]) ∧ Pld w w' lab kq kr kl qb rb P L.length lv := by
  by_cases k2 : K = 2
  · subst k2; exact plays2 h h1 h2 h3 W A B
  · by_cases k3 : K = 3
    · subst k3; exact plays3 h h1 h2 h3 W A B
    · by_cases k4 : K = 4
      · subst k4; exact plays4 h h1 h2 h3 W A B
      · by_cases k5 : K = 5
        · subst k5; exact plays5 h h1 h2 h3 W A B
        · exact plays6 h K k2 k3 k4 k5 W A B
end Go.Proofs.Ytkfdneohkgmmbaa
