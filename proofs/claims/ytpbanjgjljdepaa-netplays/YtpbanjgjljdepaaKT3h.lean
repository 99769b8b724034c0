/- tells, under: what is held on the way. -/
import Derived.Test.YtpbanjgjljdepaaKT1
namespace Go.Proofs.Ytpbanjgjljdepaa
open Go.RowKit Go.Maps
set_option maxRecDepth 100000
variable {w w' w0 w1 W W' : World} {lab lab' L L' L'' : Nat → Nat} {k j pb c ob x : Nat} {a b : Nat → Nat} {v u bv bv' l p : Value} {st : Int} {lg : Bool} {F : Nat → Prop} {S R : Nat → St} {es : List Ke} {o : Op} {d : List Int}
/-- A label that no old block has. -/
theorem fresh_label (lab : Nat → Nat) (m : Nat) : ∀ n : Nat, ∃ j, m ≤ j ∧ ∀ i, i < n → lab i < j
  | 0 => ⟨m, Nat.le_refl _, fun i h => by omega⟩
  | n + 1 => by
    obtain ⟨j, h1, h2⟩ := fresh_label lab m n
    refine ⟨max j (lab n + 1), by omega, fun i hi => ?_⟩
    by_cases q : i = n
    · subst q; omega
    · have := h2 i (by omega); omega
theorem Md.belowJ (h : Md w0 w W lab L k pb a b bv st lg S R es o ob) (hk : 0 < k) (q : Below W.heap.size W W') (m : Nat) : Md w0 w W' lab (rl L W m) k pb a b bv st lg S R es o ob :=
  h.step hk (h.pl.below q m) (Fr.below q m)
/-- A list that is no play's joined the book. -/
theorem Md.bookedG {n : Nat} {xs : List Value} (h : Md w0 w W lab L k pb a b bv st lg S R es o ob) (hk : 0 < k) (q : Kept3 W w1 (fun i => L i = k + 4) bv l bv' es) (hr : W.ownsRow 0 5 1 l n xs) (hl : ∀ i, l.ownBlock = some i → k + 6 ≤ L i) (ho : Ours w lab k l) (t : Turns (fun i => i = pb) w1 w') (hb : w'.heap[pb]? = some (.cells (plC a b bv' st lg) 71 (0, 0))) (he : es.length ≤ 1297) :
    ∃ L' es', es'.length = es.length + 3 ∧ Md w0 w w' lab L' k pb a b bv' st lg S R es' o ob ∧ Turns (fun i => Mine k (L i) ∨ l.ownBlock = some i) W w' ∧ ∀ i, i < W.heap.size → ¬ Mine k (L i) → l.ownBlock ≠ some i → L' i = L i := by
  obtain ⟨es', h1, h2⟩ := h.pl.booked q (fun i r m => by have := hl i r; have := m.2; omega) t hb he
  obtain ⟨_, _, _, hT⟩ := q
  have hlb := h.pl.lb
  have T : Turns (fun i => Mine k (L i) ∨ l.ownBlock = some i) W w' := ((hT.mono (G := fun i => Mine k (L i) ∨ l.ownBlock = some i) (fun i _ q => q.elim (fun r => Or.inl (by have : L i = k + 4 := h.pl.bk.kb i r; exact ⟨by omega, by omega⟩)) Or.inr)).trans (t.mono (G := fun i => Mine k (L i) ∨ l.ownBlock = some i) (fun i _ q => by subst q; exact Or.inl ⟨by omega, by omega⟩)) (fun _ _ r => r))
  have H : ∀ i, i < W.heap.size → ¬ Mine k (L i) → l.ownBlock ≠ some i → tl L W (k + 4) (k + 4) l i = L i := fun i hi _ r => by rw [tl_off r, rl_old hi]
  have hob : l.ownBlock ≠ some ob := own_typ hr h.op (by decide)
  refine ⟨_, es', h1, ⟨h2, ⟨h.fr.t.trans T (fun i hi q => ?_), fun i hi q => ?_⟩, h.wk.turns T (fun i q => ?_) (fun i hi => ?_), (T.block ob (heap_lt h.op) (fun q => q.elim h.ob hob)).trans h.op, by rw [H ob (heap_lt h.op) h.ob hob]; exact h.ob⟩, T, H⟩
  · rcases q with q | q
    · refine Classical.byContradiction fun r => ?_
      rw [h.fr.hl i hi r] at q
      exact r q
    · exact ho i q hi
  · have hiW := Nat.lt_of_lt_of_le hi h.fr.t.size
    by_cases r : l.ownBlock = some i
    · exact absurd (ho i r hi) q
    · rw [tl_off r, rl_old hiW]; exact h.fr.hl i hi q
  · rcases q with q | q
    · have := q.1; omega
    · have := hl i q; omega
  · have hz := h.wk.z i hi
    exact H i (Nat.lt_of_lt_of_le hi h.wk.b.size) (fun q => by have := q.1; omega) (fun q => by have := hl i q; omega)
/-- A new list of flights, of which the first q were kept. -/
structure Un (w W : World) (L : Nat → Nat) (j : Nat) (lv : Value) (fs : List En) (q : Nat) : Prop where
  row : W.ownsRow 0 42 3 lv fs.length (fs.flatMap flC)
  lv : ∀ b, lv.ownBlock = some b → L b = j ∧ w.heap.size ≤ b
  da : ∀ t e, q ≤ t → fs[t]? = some e → Da W L j e.d e.v ∧ ∀ b, e.v.ownBlock = some b → w.heap.size ≤ b
  sep : fs.Pairwise Apt
theorem Un.of {lv : Value} {fs : List En} (h : FRow W' (rl L W j) j lv fs) (hj : ∀ i, i < W.heap.size → L i < j) (hw : w.heap.size ≤ W.heap.size) : Un w W' (rl L W j) j lv fs 0 := by
  have key : ∀ b, rl L W j b = j → w.heap.size ≤ b := fun b q => by
    rcases Nat.lt_or_ge b W.heap.size with r | r
    · rw [rl_old r] at q; have := hj b r; omega
    · omega
  exact ⟨h.row, fun b q => ⟨h.lv b q, key b (h.lv b q)⟩, fun t e _ he => ⟨h.en.da e (List.mem_of_getElem? he), fun b q => key b ((h.en.da e (List.mem_of_getElem? he)).lb b q)⟩, h.en.sep⟩
theorem Un.below {lv : Value} {fs : List En} {q : Nat} (h : Un w W L j lv fs q) (u : Below W.heap.size W W') (m : Nat) : Un w W' (rl L W m) j lv fs q :=
  ⟨own_turns h.row (Below.turns u (fun _ => False)) (fun _ _ q => q), fun b q => ⟨(rl_old (own_lt h.row q)).trans (h.lv b q).1, (h.lv b q).2⟩, fun t e ht he => ⟨(h.da t e ht he).1.turns (Below.turns u (fun _ => False)) (fun _ _ _ q => q) (fun _ hi q => (rl_old hi).trans q), (h.da t e ht he).2⟩, h.sep⟩
theorem Un.kept {lv : Value} {fs : List En} {q : Nat} {e : En} (h : Un w W L j lv fs q) (he : fs[q]? = some e) (hj : k + 6 ≤ j) (T : Turns (fun i => Mine k (L i) ∨ e.v.ownBlock = some i) W W') (H : ∀ i, i < W.heap.size → ¬ Mine k (L i) → e.v.ownBlock ≠ some i → L' i = L i) : Un w W' L' j lv fs (q + 1) := by
  have nm : ∀ i, L i = j → ¬ Mine k (L i) := fun i r m => by have := m.2; omega
  have hq := (h.da q e (Nat.le_refl _) he).1
  have n1 : ∀ b, lv.ownBlock = some b → e.v.ownBlock ≠ some b := fun b hb => own_apart2 h.row hq.own (by decide) hb
  refine ⟨own_turns h.row T (fun b hb r => r.elim (nm b (h.lv b hb).1) (n1 b hb)), fun b hb => ⟨(H b (own_lt h.row hb) (nm b (h.lv b hb).1) (n1 b hb)).trans (h.lv b hb).1, (h.lv b hb).2⟩, fun t f ht hf => ?_, h.sep⟩
  obtain ⟨h1, h2⟩ := h.da t f (by omega) hf
  have apt : Apt e f := by
    obtain ⟨q1, e1⟩ := List.getElem?_eq_some_iff.1 he
    obtain ⟨t1, f1⟩ := List.getElem?_eq_some_iff.1 hf
    have := List.pairwise_iff_getElem.1 h.sep q t q1 t1 (by omega)
    rw [e1, f1] at this; exact this
  have n2 : ∀ b, f.v.ownBlock = some b → e.v.ownBlock ≠ some b := fun b hb r => apt b r hb
  exact ⟨⟨own_turns h1.own T (fun b hb r => r.elim (nm b (h1.lb b hb)) (n2 b hb)), fun b hb => (H b (own_lt h1.own hb) (nm b (h1.lb b hb)) (n2 b hb)).trans (h1.lb b hb), h1.len⟩, h2⟩
/-- The list itself turned. -/
theorem Md.rowed {lv : Value} {n : Nat} {xs : List Value} (h : Md w0 w W lab L k pb a b bv st lg S R es o ob) (hk : 0 < k) (hr : W.ownsRow 0 42 3 lv n xs) (hl : ∀ b, lv.ownBlock = some b → k + 6 ≤ L b ∧ w.heap.size ≤ b) (t : Turns (fun i => lv.ownBlock = some i) W W') : Md w0 w W' lab (rl L W (k + 6)) k pb a b bv st lg S R es o ob := by
  have hob : lv.ownBlock ≠ some ob := own_typ hr h.op (by decide)
  have nm : ∀ i, i < W.heap.size → Mine k (L i) → ¬ lv.ownBlock = some i := fun i _ m q => by have := (hl i q).1; have := m.2; omega
  refine ⟨h.pl.turns t nm (fun i hi _ => rl_old hi), ⟨h.fr.t.trans t (fun i hi q => by have := (hl i q).2; omega), fun i hi q => (rl_old (Nat.lt_of_lt_of_le hi h.fr.t.size)).trans (h.fr.hl i hi q)⟩, h.wk.turns t (fun i q => by have := (hl i q).1; omega) (fun i hi => rl_old (Nat.lt_of_lt_of_le hi h.wk.b.size)), (t.block ob (heap_lt h.op) hob).trans h.op, by rw [rl_old (heap_lt h.op)]; exact h.ob⟩
/-- Amid the first loop: q lists were kept. -/
structure Lp (w0 w W : World) (lab : Nat → Nat) (k pb : Nat) (a b : Nat → Nat) (st : Int) (lg : Bool) (S : Nat → St) (es : List Ke) (o : Op) (ob j : Nat) (lv : Value) (fs : List En) (q : Nat) : Prop where
  ex : ∃ L bv es', Md w0 w W lab L k pb a b bv st lg S S es' o ob ∧ Un w W L j lv fs q ∧ es'.length = es.length + 3 * q
end Go.Proofs.Ytpbanjgjljdepaa
