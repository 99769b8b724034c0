/- What QueuePlays holds between two steps. -/
import Derived.Test.YtkfdneohkgmmbabKH
import Derived.Test.YtkfdneohkgmmbabQO
namespace Go.Proofs.Ytkfdneohkgmmbab
open Go.RowKit
set_option maxRecDepth 100000

def sq (s : Option (Nat × Nat)) : Value := .pointer (s.map fun p => ⟨p.1, 0, none⟩)
def sr (s : Option (Nat × Nat)) : Value := .pointer (s.map fun p => ⟨p.2, 0, none⟩)
/-- One of the two: none yet, or a queue and the document's. -/
def Sl (w : World) (lab : Nat → Nat) (kq kr : Nat) (s : Option (Nat × Nat)) : Prop := ∀ p, s = some p → ∃ P L, Pr w lab kq kr p.1 p.2 P L
theorem Pr.turns {F : Nat → Prop} {w w' : World} {lab lab' : Nat → Nat} {jq jr qb rb P : Nat} {L : List (List Int)} (h : Pr w lab jq jr qb rb P L) (t : Turns F w w') (hF : ∀ i, i < w.heap.size → lab i = jq ∨ lab i = jr → ¬ F i) (hl : ∀ i, i < w.heap.size → lab' i = lab i) : Pr w' lab' jq jr qb rb P L := by
  obtain ⟨nx, la, q, r, e⟩ := h.q
  refine ⟨nx, la, q.turns t (fun i hi hq => hF i hi (Or.inl hq)) hl, ?_, e⟩
  obtain ⟨wb, vs, r⟩ := r
  exact ⟨wb, vs, r.turns t (fun i hi hq => hF i hi (Or.inr hq)) hl⟩
theorem Sl.turns {F : Nat → Prop} {w w' : World} {lab lab' : Nat → Nat} {jq jr : Nat} {s : Option (Nat × Nat)} (h : Sl w lab jq jr s) (t : Turns F w w') (hF : ∀ i, i < w.heap.size → lab i = jq ∨ lab i = jr → ¬ F i) (hl : ∀ i, i < w.heap.size → lab' i = lab i) : Sl w' lab' jq jr s := fun p hp => by
  obtain ⟨P, L, q⟩ := h p hp
  exact ⟨P, L, q.turns t hF hl⟩
/-- The lists of the book, and the book itself. -/
structure Bo (w : World) (lab : Nat → Nat) (kv : Value) (es : List Ke) : Prop where
  r : w.ownsRow 0 60 3 kv es.length (es.flatMap ce)
  l : ∀ b, kv.ownBlock = some b → lab b = 5
  e : ∀ e ∈ es, w.ownsRow 0 3 1 e.v e.n (mk e.n e.mark) ∧ (∀ b, e.v.ownBlock = some b → lab b = 5) ∧ e.n ≤ 200
theorem Bo.turns {F : Nat → Prop} {w w' : World} {lab lab' : Nat → Nat} {kv : Value} {es : List Ke} (h : Bo w lab kv es) (t : Turns F w w') (hF : ∀ i, i < w.heap.size → lab i = 5 → ¬ F i) (hl : ∀ i, i < w.heap.size → lab' i = lab i) : Bo w' lab' kv es :=
  ⟨own_turns h.r t (fun b hb => hF b (own_lt h.r hb) (h.l b hb)), fun b hb => (hl b (own_lt h.r hb)).trans (h.l b hb), fun e he => by
    obtain ⟨h1, h2, h3⟩ := h.e e he
    exact ⟨own_turns h1 t (fun b hb => hF b (own_lt h1 hb) (h2 b hb)), fun b hb => (hl b (own_lt h1 hb)).trans (h2 b hb), h3⟩⟩
abbrev T2 : TypeId := 28
structure Qq (w0 w : World) (lab : Nat → Nat) (pA : Nat) (s0 s1 : Option (Nat × Nat)) (kv : Value) (es : List Ke) : Prop where
  b : Bk w0 lab w
  x : w.heap[pA]? = some (.cells #[sq s0, sr s0, sq s1, sr s1] T2)
  lx : lab pA = 5
  p0 : Sl w lab 1 2 s0
  p1 : Sl w lab 3 4 s1
  k : Bo w lab kv es
theorem Qq.below {w0 w w' : World} {lab : Nat → Nat} {pA : Nat} {s0 s1 : Option (Nat × Nat)} {kv : Value} {es : List Ke} (h : Qq w0 w lab pA s0 s1 kv es) (b : Below w.heap.size w w') (j : Nat) : Qq w0 w' (rl lab w j) pA s0 s1 kv es :=
  ⟨h.b.below b j, (b.block pA (heap_lt h.x)).trans h.x, (rl_old (heap_lt h.x)).trans h.lx, h.p0.turns (Below.turns b (fun _ => False)) (fun _ _ _ q => q) (fun _ hi => rl_old hi), h.p1.turns (Below.turns b (fun _ => False)) (fun _ _ _ q => q) (fun _ hi => rl_old hi), h.k.turns (Below.turns b (fun _ => False)) (fun _ _ _ q => q) (fun _ hi => rl_old hi)⟩
theorem Qq.drew {w0 w : World} {lab : Nat → Nat} {pA : Nat} {s0 s1 : Option (Nat × Nat)} {kv : Value} {es : List Ke} (h : Qq w0 w lab pA s0 s1 kv es) (m : Nat) : Qq w0 (w.drewN m) lab pA s0 s1 kv es :=
  ⟨h.b.drew m, h.x, h.lx, h.p0.turns (Turns.drewN (fun _ => False) w m) (fun _ _ _ q => q) (fun _ _ => rfl), h.p1.turns (Turns.drewN (fun _ => False) w m) (fun _ _ _ q => q) (fun _ _ => rfl), h.k.turns (Turns.drewN (fun _ => False) w m) (fun _ _ _ q => q) (fun _ _ => rfl)⟩
/-- A step at the first. -/
theorem Qq.step0 {w0 w w' : World} {lab lab' : Nat → Nat} {pA qb rb P : Nat} {L : List (List Int)} {s1 : Option (Nat × Nat)} {kv : Value} {es : List Ke} (h : Qq w0 w lab pA (some (qb, rb)) s1 kv es) (g : Wnt w w' lab lab' 1 2 5) (p : Pr w' lab' 1 2 qb rb P L) : Qq w0 w' lab' pA (some (qb, rb)) s1 kv es :=
  ⟨h.b.went g (by decide) (by decide), (g.t.block pA (heap_lt h.x) (by rw [h.lx]; decide)).trans h.x, (g.o _ (heap_lt h.x)).trans h.lx, fun _ hq => by cases hq; exact ⟨P, L, p⟩, h.p1.turns g.t (fun i _ hq hf => by omega) g.o, h.k.turns g.t (fun i _ hq hf => by omega) g.o⟩
theorem Qq.step1 {w0 w w' : World} {lab lab' : Nat → Nat} {pA qb rb P : Nat} {L : List (List Int)} {s0 : Option (Nat × Nat)} {kv : Value} {es : List Ke} (h : Qq w0 w lab pA s0 (some (qb, rb)) kv es) (g : Wnt w w' lab lab' 3 4 5) (p : Pr w' lab' 3 4 qb rb P L) : Qq w0 w' lab' pA s0 (some (qb, rb)) kv es :=
  ⟨h.b.went g (by decide) (by decide), (g.t.block pA (heap_lt h.x) (by rw [h.lx]; decide)).trans h.x, (g.o _ (heap_lt h.x)).trans h.lx, h.p0.turns g.t (fun i _ hq hf => by omega) g.o, fun _ hq => by cases hq; exact ⟨P, L, p⟩, h.k.turns g.t (fun i _ hq hf => by omega) g.o⟩
/-- Both new ones are made. -/
theorem pr_new {w w1 w2 : World} {lab : Nat → Nat} {kq kr qb rb n p : Nat} (h1 : kq ≠ kr) (q : Qu KI w1 (rl lab w kq) kq qb p 0 (List.replicate (n + 1) [])) (b2 : Below w1.heap.size w1 w2) (r : Ru KR w2 (rl (rl lab w kq) w1 kr) kr rb p n (List.replicate (n + 1) [])) : Pr w2 (rl (rl lab w kq) w1 kr) kq kr qb rb p (List.replicate (n + 1) []) := by
  have _ := h1
  exact ⟨0, n, q.below b2 kr, r, by simp⟩
theorem box_two {w : World} {pA : Nat} {a b c d u v : Value} (h : w.heap[pA]? = some (.cells #[a, b, c, d] T2)) : ((w.setCell ⟨pA, 0, none⟩ u).setCell ⟨pA, 1, none⟩ v).heap[pA]? = some (.cells #[u, v, c, d] T2) := by
  have h1 := heap_setCell_same w pA 0 _ _ u h
  have h2 := heap_setCell_same _ pA 1 _ _ v h1
  exact h2
theorem box_two' {w : World} {pA : Nat} {a b c d u v : Value} (h : w.heap[pA]? = some (.cells #[a, b, c, d] T2)) : ((w.setCell ⟨pA, 2, none⟩ u).setCell ⟨pA, 3, none⟩ v).heap[pA]? = some (.cells #[a, b, u, v] T2) := by
  have h1 := heap_setCell_same w pA 2 _ _ u h
  have h2 := heap_setCell_same _ pA 3 _ _ v h1
  exact h2
theorem turns_two (w : World) (pA i j : Nat) (u v : Value) : Turns (fun x => x = pA) w ((w.setCell ⟨pA, i, none⟩ u).setCell ⟨pA, j, none⟩ v) := (Turns.cell w pA i u).trans (Turns.cell _ pA j v) (fun _ _ q => q)
theorem size_two (w : World) (pA i j : Nat) (u v : Value) : ((w.setCell ⟨pA, i, none⟩ u).setCell ⟨pA, j, none⟩ v).heap.size = w.heap.size := by simp [World.setCell]
/-- What is written into the array alone leaves the book. -/
theorem Bo.array {w w' : World} {lab : Nat → Nat} {pA : Nat} {kv : Value} {es : List Ke} {cs : Array Value} (h : Bo w lab kv es) (hx : w.heap[pA]? = some (.cells cs T2)) (t : Turns (fun x => x = pA) w w') : Bo w' lab kv es :=
  ⟨own_turns h.r t (fun b hb q => by subst q; exact own_typ h.r hx (by decide) hb), h.l, fun e he => by
    obtain ⟨h1, h2, h3⟩ := h.e e he
    exact ⟨own_turns h1 t (fun b hb q => by subst q; exact own_typ h1 hx (by decide) hb), h2, h3⟩⟩
theorem Bk.five {w0 w w' : World} {lab : Nat → Nat} {pA : Nat} (h : Bk w0 lab w) (hl : lab pA = 5) (t : Turns (fun x => x = pA) w w') : Bk w0 lab w' :=
  ⟨h.b.trans ((t.mono (G := fun i => i = pA ∧ w0.heap.size ≤ i) (fun i _ q => ⟨q, by
    rcases Nat.lt_or_ge i w0.heap.size with r | r
    · have := h.z i r; rw [q, hl] at this; cases this
    · exact r⟩)).below (fun _ q => q.2) h.b.size), h.z⟩
theorem Qq.set0 {w0 w w' : World} {lab : Nat → Nat} {pA qb rb P : Nat} {L : List (List Int)} {s0 s1 : Option (Nat × Nat)} {kv : Value} {es : List Ke} (h : Qq w0 w lab pA s0 s1 kv es) (p : Pr w lab 1 2 qb rb P L) (t : Turns (fun x => x = pA) w w') (hx : w'.heap[pA]? = some (.cells #[sq (some (qb, rb)), sr (some (qb, rb)), sq s1, sr s1] T2)) : Qq w0 w' lab pA (some (qb, rb)) s1 kv es :=
  ⟨h.b.five h.lx t, hx, h.lx, fun _ hq => by cases hq; exact ⟨P, L, p.turns t (fun i _ hq hf => by subst hf; have := h.lx; omega) (fun _ _ => rfl)⟩, h.p1.turns t (fun i _ hq hf => by subst hf; have := h.lx; omega) (fun _ _ => rfl), h.k.array h.x t⟩
theorem Qq.set1 {w0 w w' : World} {lab : Nat → Nat} {pA qb rb P : Nat} {L : List (List Int)} {s0 s1 : Option (Nat × Nat)} {kv : Value} {es : List Ke} (h : Qq w0 w lab pA s0 s1 kv es) (p : Pr w lab 3 4 qb rb P L) (t : Turns (fun x => x = pA) w w') (hx : w'.heap[pA]? = some (.cells #[sq s0, sr s0, sq (some (qb, rb)), sr (some (qb, rb))] T2)) : Qq w0 w' lab pA s0 (some (qb, rb)) kv es :=
  ⟨h.b.five h.lx t, hx, h.lx, h.p0.turns t (fun i _ hq hf => by subst hf; have := h.lx; omega) (fun _ _ => rfl), fun _ hq => by cases hq; exact ⟨P, L, p.turns t (fun i _ hq hf => by subst hf; have := h.lx; omega) (fun _ _ => rfl)⟩, h.k.array h.x t⟩
/-- keep, among all that. -/
theorem Qq.keep {w0 w w' : World} {lab : Nat → Nat} {pA : Nat} {s0 s1 : Option (Nat × Nat)} {kv lv kv' g1 g2 : Value} {es : List Ke} {mark : Int} {m : Nat} (h : Qq w0 w lab pA s0 s1 kv es) {xs : List Value} (hl : w.ownsRow 0 3 1 lv m xs) (ll : ∀ b, lv.ownBlock = some b → lab b = 5) (hfr : ∀ e ∈ es, ∀ b, e.v.ownBlock = some b → lv.ownBlock ≠ some b) (hm : m ≤ 64) (r : KeR w w' kv lv kv' g1 g2 es mark m) : Qq w0 w' (rl lab w 5) pA s0 s1 kv' (es ++ [⟨lv, mark, m⟩, ⟨g1, mark, m + 1⟩, ⟨g2, mark, m + 80⟩]) := by
  have hF : ∀ i, i < w.heap.size → (lv.ownBlock = some i ∨ kv.ownBlock = some i) → lab i = 5 := fun i _ q => by
    rcases q with q | q
    · exact ll i q
    · exact h.k.l i q
  have t5 : Turns (fun i => lab i = 5) w w' := r.t.mono hF
  refine ⟨h.b.step t5 (by decide), (r.t.block pA (heap_lt h.x) (fun q => ?_)).trans h.x, (rl_old (heap_lt h.x)).trans h.lx, h.p0.turns t5 (fun i _ hq hf => by omega) (fun _ hi => rl_old hi), h.p1.turns t5 (fun i _ hq hf => by omega) (fun _ hi => rl_old hi), ⟨?_, fun b hb => ?_, fun e he => ?_⟩⟩
  · rcases q with q | q
    · exact own_typ hl h.x (by decide) q
    · exact own_typ h.k.r h.x (by decide) q
  · have := r.row
    rwa [show (es ++ ([⟨lv, mark, m⟩, ⟨g1, mark, m + 1⟩, ⟨g2, mark, m + 80⟩] : List Ke)).length = es.length + 3 by simp]
  · rcases r.kb b hb with q | q
    · exact (rl_old (own_lt h.k.r q)).trans (h.k.l b q)
    · exact rl_new q
  · rcases List.mem_append.1 he with q | q
    · obtain ⟨e1, e2, e3⟩ := h.k.e e q
      refine ⟨own_turns e1 r.t (fun b hb hq => ?_), fun b hb => (rl_old (own_lt e1 hb)).trans (e2 b hb), e3⟩
      rcases hq with hq | hq
      · exact hfr e q b hb hq
      · exact own_unlike e1 h.k.r (by decide) b hb hq
    · simp at q
      rcases q with rfl | rfl | rfl
      · exact ⟨r.o0, fun b hb => (rl_old (own_lt hl hb)).trans (ll b hb), by show m ≤ 200; omega⟩
      · exact ⟨ownsRow_mono r.o1 (Nat.zero_le _), fun b hb => rl_new (own_ge r.o1 hb), by show m + 1 ≤ 200; omega⟩
      · exact ⟨ownsRow_mono r.o2 (Nat.zero_le _), fun b hb => rl_new (own_ge r.o2 hb), by show m + 80 ≤ 200; omega⟩
structure Qp (w0 w : World) (pA : Nat) (kv : Value) (es : List Ke) : Prop where
  x : ∃ lab s0 s1, Qq w0 w lab pA s0 s1 kv es
end Go.Proofs.Ytkfdneohkgmmbab
