/- What DeviceOwns holds beside the device: the hoard, and the lists of what pends. -/
import Derived.Test.YtkffnbcfmaoldabOB
namespace Go.Proofs.Ytkffnbcfmaoldab
open Go.RowKit Go.Maps
set_option maxRecDepth 100000

/-- A list of what pends: its block, how long it is. -/
abbrev plv (p : Nat × Nat) : Value := .slice (some ⟨p.1, 0, none⟩) p.2 p.2
/-- The lists of what pends, each in a block of its own. -/
structure Pls (w : World) (base : Nat) (pv : Value) (ps : List (Nat × Nat)) : Prop where
  row : w.ownsRow base 31 1 pv ps.length (ps.map plv)
  dat : ∀ p ∈ ps, ∃ cs : List Value, w.heap[p.1]? = some (.cells cs.toArray 41 (0, 0)) ∧ cs.length = p.2 * 2
  nd : (ps.map (·.1)).Nodup
theorem Pls.turns {F : Nat → Prop} {w w' : World} {base : Nat} {pv : Value} {ps : List (Nat × Nat)} (h : Pls w base pv ps) (t : Turns F w w') (h1 : ∀ b, pv.ownBlock = some b → ¬ F b) (h2 : ∀ p ∈ ps, ¬ F p.1) : Pls w' base pv ps :=
  ⟨own_turns h.row t h1, fun p hp => by
    obtain ⟨cs, e, hl⟩ := h.dat p hp
    exact ⟨cs, (t.block p.1 (heap_lt e) (h2 p hp)).trans e, hl⟩, h.nd⟩
theorem Pls.lt {w : World} {base : Nat} {pv : Value} {ps : List (Nat × Nat)} (h : Pls w base pv ps) : ∀ p ∈ ps, p.1 < w.heap.size := fun p hp => by
  obtain ⟨cs, e, _⟩ := h.dat p hp
  exact heap_lt e
structure Lk (w0 w : World) (d : Nat) (S : DevS) (k N : Nat) (F : Nat → Prop) (hb : Nat) (K : Nat → Prop) (vL vW pv : Value) (es : List It) (ps : List (Nat × Nat)) : Prop where
  O : On w0 w d S k N F
  H : Hd w w0.heap.size hb K vL vW es
  P : Pls w w0.heap.size pv ps
  kF : ∀ i, K i → ¬ F i
  kl : ∀ i, K i → w0.heap.size ≤ i ∧ i < w.heap.size
  pF : ∀ b, pv.ownBlock = some b → ¬ F b ∧ ¬ K b
  gF : ∀ p ∈ ps, ¬ F p.1 ∧ ¬ K p.1
theorem Lk.same {w0 w w' : World} {d : Nat} {S S' : DevS} {k N N' : Nat} {F : Nat → Prop} {hb : Nat} {K : Nat → Prop} {vL vW pv : Value} {es : List It} {ps : List (Nat × Nat)} (h : Lk w0 w d S k N F hb K vL vW pv es ps) (q : Same0 w w' d S' k N' F) : Lk w0 w' d S' k N' F hb K vL vW pv es ps :=
  { h with
    O := h.O.same q
    H := h.H.turns q.2 h.kF
    P := h.P.turns q.2 (fun b e => (h.pF b e).1) (fun p hp => (h.gF p hp).1)
    kl := fun i hi => ⟨(h.kl i hi).1, Nat.lt_of_lt_of_le (h.kl i hi).2 q.2.size⟩ }
theorem Lk.below {w0 w w' : World} {d : Nat} {S : DevS} {k N : Nat} {F : Nat → Prop} {hb : Nat} {K : Nat → Prop} {vL vW pv : Value} {es : List It} {ps : List (Nat × Nat)} (h : Lk w0 w d S k N F hb K vL vW pv es ps) (b : Below w.heap.size w w') : Lk w0 w' d S k N F hb K vL vW pv es ps :=
  { h with
    O := h.O.below b
    H := h.H.below b
    P := h.P.turns (Below.turns b (fun _ => False)) (fun _ _ => id) (fun _ _ => id)
    kl := fun i hi => ⟨(h.kl i hi).1, Nat.lt_of_lt_of_le (h.kl i hi).2 b.size⟩ }
/-- A step on the device. -/
theorem Lk.went {w0 w w' : World} {d : Nat} {S S' : DevS} {k N N' gb : Nat} {F : Nat → Prop} {hb : Nat} {K : Nat → Prop} {vL vW pv : Value} {es : List It} {ps : List (Nat × Nat)} (h : Lk w0 w d S k N F hb K vL vW pv es ps) (D : Dev w' d 0 S' k N' (grow F w w')) (t : Turns (fun i => F i ∨ i = gb) w w') (g0 : w0.heap.size ≤ gb) (g1 : ¬ K gb) (g2 : pv.ownBlock ≠ some gb) (g3 : ∀ p ∈ ps, p.1 ≠ gb) : Lk w0 w' d S' k N' (grow F w w') hb K vL vW pv es ps := by
  have old : ∀ i, i < w.heap.size → ¬ F i → ¬ grow F w w' i := fun i hi hn q => hn (grow_old i hi q)
  exact { h with
    O := ⟨D, grow_below h.O.hF h.O.B.size, h.O.B.trans (t.below (fun i e => e.elim (h.O.hF i) (fun e => by omega)) h.O.B.size)⟩
    H := h.H.turns t (fun i hi q => q.elim (h.kF i hi) (fun e => g1 (by rw [← e]; exact hi)))
    P := h.P.turns t (fun b e q => q.elim (h.pF b e).1 (fun q => g2 (by rw [← q]; exact e))) (fun p hp q => q.elim (h.gF p hp).1 (g3 p hp))
    kF := fun i hi => old i (h.kl i hi).2 (h.kF i hi)
    kl := fun i hi => ⟨(h.kl i hi).1, Nat.lt_of_lt_of_le (h.kl i hi).2 t.size⟩
    pF := fun b e => ⟨old b (h.P.row.lt b e).2 (h.pF b e).1, (h.pF b e).2⟩
    gF := fun p hp => ⟨old p.1 (h.P.lt p hp) (h.gF p hp).1, (h.gF p hp).2⟩ }
/-- One more list in the hoard. -/
theorem Lk.kept {w0 w w' : World} {d : Nat} {S : DevS} {k N : Nat} {F : Nat → Prop} {hb : Nat} {K : Nat → Prop} {vL vW vA vC pv u : Value} {es : List It} {ps : List (Nat × Nat)} {g : Nat} {L : List Int} (h : Lk w0 w d S k N F hb K vL vW pv es ps) (hd : Hd w' w0.heap.size hb (fun i => K i ∨ i = g ∨ (w.heap.size ≤ i ∧ i < w'.heap.size)) vA vC (es ++ [⟨g, L, u⟩])) (t : Turns K w w') (g0 : w0.heap.size ≤ g) (gl : g < w.heap.size) (g1 : ¬ F g) (g2 : pv.ownBlock ≠ some g) (g3 : ∀ p ∈ ps, p.1 ≠ g) :
    Lk w0 w' d S k N F hb (fun i => K i ∨ i = g ∨ (w.heap.size ≤ i ∧ i < w'.heap.size)) vA vC pv (es ++ [⟨g, L, u⟩]) ps := by
  have hs := t.size
  have hB := h.O.B.size
  exact { h with
    O := ⟨h.O.D.turns t (fun i hi q => h.kF i q hi), h.O.hF, h.O.B.trans (t.below (fun i e => (h.kl i e).1) h.O.B.size)⟩
    H := hd
    P := h.P.turns t (fun b e => (h.pF b e).2) (fun p hp => (h.gF p hp).2)
    kF := fun i hi q => hi.elim (fun hi => h.kF i hi q) (fun hi => hi.elim (fun e => g1 (by rw [← e]; exact q)) (fun e => by have := h.O.D.lt i q; omega))
    kl := fun i hi => hi.elim (fun hi => ⟨(h.kl i hi).1, Nat.lt_of_lt_of_le (h.kl i hi).2 hs⟩) (fun hi => hi.elim (fun e => by omega) (fun e => by omega))
    pF := fun b e => ⟨(h.pF b e).1, fun q => q.elim (h.pF b e).2 (fun q => q.elim (fun q => g2 (by rw [← q]; exact e)) (fun q => by have := (h.P.row.lt b e).2; omega))⟩
    gF := fun p hp => ⟨(h.gF p hp).1, fun q => q.elim (h.gF p hp).2 (fun q => q.elim (g3 p hp) (fun q => by have := h.P.lt p hp; omega))⟩ }
/-- One more list of what pends. -/
theorem Lk.add {w0 w w' : World} {d : Nat} {S : DevS} {k N : Nat} {F : Nat → Prop} {hb : Nat} {K : Nat → Prop} {vL vW pv pv' : Value} {es : List It} {ps : List (Nat × Nat)} {G m : Nat} {cs : List Value} (h : Lk w0 w d S k N F hb K vL vW pv es ps) (hG : w.heap[G]? = some (.cells cs.toArray 41 (0, 0))) (hl : cs.length = m * 2) (g1 : ¬ F G ∧ ¬ K G) (g3 : ∀ p ∈ ps, p.1 ≠ G) (t : Turns (fun i => pv.ownBlock = some i) w w')
    (hr : w'.ownsRow w0.heap.size 31 1 pv' (ps.length + 1) (ps.map plv ++ [.slice (some ⟨G, 0, none⟩) m m])) (hat : ∀ b, pv'.ownBlock = some b → pv.ownBlock = some b ∨ w.heap.size ≤ b) : Lk w0 w' d S k N F hb K vL vW pv' es (ps ++ [(G, m)]) := by
  have hp : ∀ (cs : List Value) x, w.heap[x]? = some (.cells cs.toArray 41 (0, 0)) → pv.ownBlock ≠ some x := fun cs x hx => own_ne h.P.row hx (by decide)
  exact { h with
    O := ⟨h.O.D.turns t (fun i hi e => (h.pF i e).1 hi), h.O.hF, h.O.B.trans (t.below (fun i e => (h.P.row.lt i e).1) h.O.B.size)⟩
    H := h.H.turns t (fun i hi e => (h.pF i e).2 hi)
    P := by
      refine ⟨by simpa using hr, fun p q => ?_, ?_⟩
      · rcases List.mem_append.1 q with q | q
        · obtain ⟨cs, e, hl⟩ := h.P.dat p q
          exact ⟨cs, (t.block p.1 (heap_lt e) (hp cs _ e)).trans e, hl⟩
        · obtain rfl := List.mem_singleton.1 q
          exact ⟨cs, (t.block G (heap_lt hG) (hp cs _ hG)).trans hG, hl⟩
      · rw [List.map_append, List.nodup_append]
        refine ⟨h.P.nd, by simp, fun x hx y hy => ?_⟩
        obtain ⟨e, he, rfl⟩ := List.mem_map.1 hx
        obtain rfl : y = G := by simpa using hy
        exact g3 e he
    kl := fun i hi => ⟨(h.kl i hi).1, Nat.lt_of_lt_of_le (h.kl i hi).2 t.size⟩
    pF := fun b e => (hat b e).elim (h.pF b) (fun q => ⟨fun r => by have := h.O.D.lt b r; omega, fun r => by have := (h.kl b r).2; omega⟩)
    gF := fun p q => (List.mem_append.1 q).elim (h.gF p) (fun q => by obtain rfl := List.mem_singleton.1 q; exact g1) }
end Go.Proofs.Ytkffnbcfmaoldab
