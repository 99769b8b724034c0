/- What QueueOwns holds between two steps. -/
import Derived.Test.YtkfdneohkgmmbabOA
import Derived.Test.YtkfdneohkgmmbabQP1
namespace Go.Proofs.Ytkfdneohkgmmbab
open Go.RowKit
set_option maxRecDepth 100000

structure Oc (w0 w : World) (lab : Nat → Nat) (qb rb pb P : Nat) (L : List (List Int)) (lv wv : Value) (es : List Ow) (us : List (Value × List Int)) : Prop where
  p : Pr w lab 1 2 qb rb P L
  b : Bk w0 lab w
  x : w.heap[pb]? = some (.cells #[.pointer (some ⟨qb, 0, none⟩), .pointer (some ⟨rb, 0, none⟩)] 27)
  lx : lab pb = 7
  r : w.ownsRow 0 34 1 lv es.length (es.map Ow.val)
  r5 : ∀ b, lv.ownBlock = some b → lab b = 5
  d : ∀ e ∈ es, w.heap[e.g]? = some (il e.L) ∧ lab e.g = 5 ∧ e.L.length ≤ 64
  nd : (es.map Ow.g).Nodup
  s : w.ownsRow 0 34 1 wv us.length (us.map Prod.fst)
  s6 : ∀ b, wv.ownBlock = some b → lab b = 6
  u : ∀ e ∈ us, w.ownsRow 0 3 1 e.1 e.2.length (e.2.map (Value.int .i64)) ∧ (∀ b, e.1.ownBlock = some b → lab b = 6)
theorem Oc.turns {F : Nat → Prop} {w0 w w' : World} {lab lab' : Nat → Nat} {qb rb pb P : Nat} {L L' : List (List Int)} {lv wv : Value} {es : List Ow} {us : List (Value × List Int)} (h : Oc w0 w lab qb rb pb P L lv wv es us) (t : Turns F w w') (hF : ∀ i, i < w.heap.size → lab i = 5 ∨ lab i = 6 ∨ lab i = 7 → ¬ F i) (hl : ∀ i, i < w.heap.size → lab' i = lab i) (hb : Bk w0 lab' w') (hp : Pr w' lab' 1 2 qb rb P L') : Oc w0 w' lab' qb rb pb P L' lv wv es us :=
  ⟨hp, hb, (t.block pb (heap_lt h.x) (hF pb (heap_lt h.x) (Or.inr (Or.inr h.lx)))).trans h.x, (hl _ (heap_lt h.x)).trans h.lx,
    own_turns h.r t (fun b hb => hF b (own_lt h.r hb) (Or.inl (h.r5 b hb))), fun b hb => (hl b (own_lt h.r hb)).trans (h.r5 b hb),
    fun e he => by
      obtain ⟨h1, h2, h3⟩ := h.d e he
      exact ⟨(t.block e.g (heap_lt h1) (hF e.g (heap_lt h1) (Or.inl h2))).trans h1, (hl e.g (heap_lt h1)).trans h2, h3⟩,
    h.nd, own_turns h.s t (fun b hb => hF b (own_lt h.s hb) (Or.inr (Or.inl (h.s6 b hb)))), fun b hb => (hl b (own_lt h.s hb)).trans (h.s6 b hb),
    fun e he => by
      obtain ⟨h1, h2⟩ := h.u e he
      exact ⟨own_turns h1 t (fun b hb => hF b (own_lt h1 hb) (Or.inr (Or.inl (h2 b hb)))), fun b hb => (hl b (own_lt h1 hb)).trans (h2 b hb)⟩⟩
theorem Oc.below {w0 w w' : World} {lab : Nat → Nat} {qb rb pb P : Nat} {L : List (List Int)} {lv wv : Value} {es : List Ow} {us : List (Value × List Int)} (h : Oc w0 w lab qb rb pb P L lv wv es us) (b : Below w.heap.size w w') (j : Nat) : Oc w0 w' (rl lab w j) qb rb pb P L lv wv es us :=
  h.turns (Below.turns b (fun _ => False)) (fun _ _ _ q => q) (fun _ hi => rl_old hi) (h.b.below b j) (h.p.below b j)
theorem Oc.drew {w0 w : World} {lab : Nat → Nat} {qb rb pb P : Nat} {L : List (List Int)} {lv wv : Value} {es : List Ow} {us : List (Value × List Int)} (h : Oc w0 w lab qb rb pb P L lv wv es us) (m : Nat) : Oc w0 (w.drewN m) lab qb rb pb P L lv wv es us :=
  h.turns (Turns.drewN (fun _ => False) w m) (fun _ _ _ q => q) (fun _ _ => rfl) (h.b.drew m) (h.p.turns (Turns.drewN (fun _ => False) w m) (fun _ _ _ q => q) (fun _ _ => rfl))
theorem Oc.went {w0 w w' : World} {lab lab' : Nat → Nat} {qb rb pb P : Nat} {L L' : List (List Int)} {lv wv : Value} {es : List Ow} {us : List (Value × List Int)} (h : Oc w0 w lab qb rb pb P L lv wv es us) (g : Wnt w w' lab lab' 1 2 7) (p : Pr w' lab' 1 2 qb rb P L') : Oc w0 w' lab' qb rb pb P L' lv wv es us :=
  h.turns g.t (fun i _ q f => by omega) g.o (h.b.went g (by decide) (by decide)) p
/-- A list more. -/
theorem Oc.addL {w0 w w' : World} {lab : Nat → Nat} {qb rb pb P : Nat} {L : List (List Int)} {lv lv' wv : Value} {es : List Ow} {us : List (Value × List Int)} (h : Oc w0 w lab qb rb pb P L lv wv es us) (g : Nat) (xs : List Int) (hg : w.heap[g]? = some (il xs)) (lg : lab g = 5) (hfr : ∀ e ∈ es, e.g ≠ g) (hx : xs.length ≤ 64) (t : Turns (fun i => lv.ownBlock = some i) w w') (hr : w'.ownsRow 0 34 1 lv' (es.length + 1) (es.map Ow.val ++ [.slice (some ⟨g, 0, none⟩) xs.length xs.length])) (hat : ∀ b, lv'.ownBlock = some b → lv.ownBlock = some b ∨ w.heap.size ≤ b) :
    Oc w0 w' (rl lab w 5) qb rb pb P L lv' wv (es ++ [⟨g, xs, .nilFunc⟩]) us := by
  have t5 : Turns (fun i => lab i = 5) w w' := t.mono (fun i _ q => h.r5 i q)
  have hil : ∀ y ys, w.heap[y]? = some (il ys) → w'.heap[y]? = some (il ys) := fun y ys hy => (t.block y (heap_lt hy) (fun q => own_typ h.r hy (by decide) q)).trans hy
  refine ⟨h.p.turns t5 (fun i _ q f => by omega) (fun _ hi => rl_old hi), h.b.step t5 (by decide), (t.block pb (heap_lt h.x) (fun q => by have := h.r5 pb q; have := h.lx; omega)).trans h.x, (rl_old (heap_lt h.x)).trans h.lx, by simpa [Ow.val] using hr, fun b hb => ?_, fun e he => ?_, ?_, own_turns h.s t (fun b hb q => by have := h.r5 b q; have := h.s6 b hb; omega), fun b hb => (rl_old (own_lt h.s hb)).trans (h.s6 b hb), fun e he => ?_⟩
  · rcases hat b hb with q | q
    · exact (rl_old (own_lt h.r q)).trans (h.r5 b q)
    · exact rl_new q
  · rcases List.mem_append.1 he with q | q
    · obtain ⟨h1, h2, h3⟩ := h.d e q
      exact ⟨hil _ _ h1, (rl_old (heap_lt h1)).trans h2, h3⟩
    · obtain rfl := List.mem_singleton.1 q
      exact ⟨hil _ _ hg, (rl_old (heap_lt hg)).trans lg, hx⟩
  · rw [List.map_append, List.nodup_append]
    refine ⟨h.nd, by simp, fun x hx y hy => ?_⟩
    obtain ⟨e, he, rfl⟩ := List.mem_map.1 hx
    obtain rfl : y = g := by simpa using hy
    exact hfr e he
  · obtain ⟨h1, h2⟩ := h.u e he
    exact ⟨own_turns h1 t (fun b hb q => by have := h.r5 b q; have := h2 b hb; omega), fun b hb => (rl_old (own_lt h1 hb)).trans (h2 b hb)⟩
/-- A copy more. -/
theorem Oc.addU {w0 w w' : World} {lab : Nat → Nat} {qb rb pb P : Nat} {L : List (List Int)} {lv wv wv' : Value} {es : List Ow} {us : List (Value × List Int)} (h : Oc w0 w lab qb rb pb P L lv wv es us) (u : Value) (xs : List Int) (hu : w.ownsRow 0 3 1 u xs.length (xs.map (Value.int .i64))) (lu : ∀ b, u.ownBlock = some b → lab b = 6) (t : Turns (fun i => wv.ownBlock = some i) w w') (hr : w'.ownsRow 0 34 1 wv' (us.length + 1) (us.map Prod.fst ++ [u])) (hat : ∀ b, wv'.ownBlock = some b → wv.ownBlock = some b ∨ w.heap.size ≤ b) :
    Oc w0 w' (rl lab w 6) qb rb pb P L lv wv' es (us ++ [(u, xs)]) := by
  have t6 : Turns (fun i => lab i = 6) w w' := t.mono (fun i _ q => h.s6 i q)
  have hro : ∀ v n ys, w.ownsRow 0 3 1 v n ys → w'.ownsRow 0 3 1 v n ys := fun v n ys hv => own_turns hv t (fun b hb q => own_unlike hv h.s (by decide) b hb q)
  refine ⟨h.p.turns t6 (fun i _ q f => by omega) (fun _ hi => rl_old hi), h.b.step t6 (by decide), (t.block pb (heap_lt h.x) (fun q => by have := h.s6 pb q; have := h.lx; omega)).trans h.x, (rl_old (heap_lt h.x)).trans h.lx, own_turns h.r t (fun b hb q => by have := h.s6 b q; have := h.r5 b hb; omega), fun b hb => (rl_old (own_lt h.r hb)).trans (h.r5 b hb), fun e he => ?_, h.nd, by simpa using hr, fun b hb => ?_, fun e he => ?_⟩
  · obtain ⟨h1, h2, h3⟩ := h.d e he
    exact ⟨(t.block e.g (heap_lt h1) (fun q => by have := h.s6 e.g q; omega)).trans h1, (rl_old (heap_lt h1)).trans h2, h3⟩
  · rcases hat b hb with q | q
    · exact (rl_old (own_lt h.s q)).trans (h.s6 b q)
    · exact rl_new q
  · rcases List.mem_append.1 he with q | q
    · obtain ⟨h1, h2⟩ := h.u e q
      exact ⟨hro _ _ _ h1, fun b hb => (rl_old (own_lt h1 hb)).trans (h2 b hb)⟩
    · obtain rfl := List.mem_singleton.1 q
      exact ⟨hro _ _ _ hu, fun b hb => (rl_old (own_lt hu hb)).trans (lu b hb)⟩
theorem own_block {w : World} {base e g n : Nat} {xs : List Value} (h : w.ownsRow base e 1 (.slice (some ⟨g, 0, none⟩) n n) n xs) : w.heap[g]? = some (.cells xs.toArray e (0, 0)) := by
  rcases h.2 with ⟨q, _⟩ | ⟨g', cap, cur, q, _, hh, h3, h4, h5, h6⟩
  · cases q
  · cases q
    rw [hh, ← h6, List.take_of_length_le (by simp; omega)]
/-- Between two steps of QueueOwns: the lists and their copies go together. -/
structure OwI (w0 w : World) (qb rb pb P n : Nat) (lv wv : Value) (N : Nat) : Prop where
  x : ∃ lab L es us, Oc w0 w lab qb rb pb P L lv wv es us ∧ L.length = n ∧ es.length = N ∧ us.map Prod.snd = es.map Ow.L
end Go.Proofs.Ytkfdneohkgmmbab
