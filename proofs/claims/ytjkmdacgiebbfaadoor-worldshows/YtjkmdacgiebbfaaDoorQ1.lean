/- A queue in memory: its box, the row of its lists, the lists; whose each block is. -/
import Derived.Test.YtjkmdacgiebbfaaDoorTurns
namespace Go.Proofs.YtjkmdacgiebbfaaDoor
open Go.RowKit
set_option maxRecDepth 100000

/-- All blocks that are made from now on are k's. -/
def rl (lab : Nat → Nat) (w : World) (k : Nat) (i : Nat) : Nat := if i < w.heap.size then lab i else k
theorem rl_old {lab : Nat → Nat} {w : World} {k i : Nat} (h : i < w.heap.size) : rl lab w k i = lab i := if_pos h
theorem rl_new {lab : Nat → Nat} {w : World} {k i : Nat} (h : w.heap.size ≤ i) : rl lab w k i = k := if_neg (by omega)
theorem rl_same {lab : Nat → Nat} {w w' : World} {k : Nat} (h : w'.heap.size = w.heap.size) : rl lab w' k = rl lab w k := by funext i; unfold rl; rw [h]
/-- Two labels that are one where there are blocks. -/
theorem own_typ {w : World} {base e s n hb t : Nat} {v : Value} {xs : List Value} {cs : Array Value} {f : Nat × Nat} (h : w.ownsRow base e s v n xs) (hb' : w.heap[hb]? = some (.cells cs t f)) (hne : e ≠ t) : v.ownBlock ≠ some hb := by
  rcases h.2 with ⟨rfl, _⟩ | ⟨g, cap, cur, rfl, hg, hh, _⟩
  · intro q; cases q
  · intro q; cases q
    rw [hh] at hb'
    cases hb'
    exact hne rfl
theorem own_lt {w : World} {base e s n : Nat} {v : Value} {xs : List Value} (h : w.ownsRow base e s v n xs) {b : Nat} (hb : v.ownBlock = some b) : b < w.heap.size := by
  rcases h.2 with ⟨rfl, _⟩ | ⟨g, cap, cur, rfl, hg, hh, _⟩
  · cases hb
  · cases hb; exact heap_lt hh
theorem own_ge {w : World} {base e s n : Nat} {v : Value} {xs : List Value} (h : w.ownsRow base e s v n xs) {b : Nat} (hb : v.ownBlock = some b) : base ≤ b := by
  rcases h.2 with ⟨rfl, _⟩ | ⟨g, cap, cur, rfl, hg, hh, _⟩
  · cases hb
  · cases hb; exact hg
theorem own_shape {w : World} {base e s n : Nat} {v : Value} {xs : List Value} (h : w.ownsRow base e s v n xs) : (v = .slice none 0 0 ∧ n = 0) ∨ ∃ g cap, v = .slice (some ⟨g, 0, none⟩) n cap ∧ n ≤ cap ∧ cap ≤ maxLen := by
  rcases h.2 with h2 | ⟨g, cap, cur, rfl, hg, hh, h3, h4, _⟩
  · exact Or.inl h2
  · exact Or.inr ⟨g, cap, rfl, h3, h4⟩
theorem own_slice {w : World} {base e s n : Nat} {v : Value} {xs : List Value} (h : w.ownsRow base e s v n xs) : ∃ ao cap, v = .slice ao n cap := by
  rcases own_shape h with ⟨rfl, rfl⟩ | ⟨g, cap, rfl, _⟩
  · exact ⟨_, _, rfl⟩
  · exact ⟨_, _, rfl⟩

/-- The kinds of queues: the types of the box, of a list, of an element; how many cells an element has, and which. -/
structure Kd (E : Type) where
  tq : TypeId
  ts : TypeId
  te : TypeId
  sz : Nat
  cs : E → List Value
  ne1 : te ≠ tq
  ne2 : te ≠ ts
  ne3 : tq ≠ ts
structure Qx {E : Type} (K : Kd E) (w : World) (lab : Nat → Nat) (k qb wb P nx : Nat) (vs : List Value) (L : List (List E)) : Prop where
  box : w.heap[qb]? = some (.cells #[.int .i64 P, .int .i64 nx, .slice (some ⟨wb, 0, none⟩) L.length L.length] K.tq)
  row : w.heap[wb]? = some (.cells vs.toArray K.ts)
  len : vs.length = L.length
  own : ∀ (i : Nat) (h1 : i < vs.length) (h2 : i < L.length), w.ownsRow 0 K.te K.sz vs[i] L[i].length (L[i].flatMap K.cs)
  ne : ∀ (i j : Nat) (h1 : i < vs.length) (h2 : j < vs.length) b, i ≠ j → vs[i].ownBlock = some b → vs[j].ownBlock ≠ some b
  lq : lab qb = k
  lw : lab wb = k
  lv : ∀ (i : Nat) (h1 : i < vs.length) b, vs[i].ownBlock = some b → lab b = k
  le : ∀ (i : Nat) (h2 : i < L.length), L[i].length ≤ P
  hP : P ≤ 64
  hn : L.length ≤ 64
  hx : nx < L.length
variable {E : Type} {K : Kd E}
theorem Qx.turns {F : Nat → Prop} {w w' : World} {lab lab' : Nat → Nat} {k qb wb P nx : Nat} {vs : List Value} {L : List (List E)} (h : Qx K w lab k qb wb P nx vs L) (t : Turns F w w') (hF : ∀ i, i < w.heap.size → lab i = k → ¬ F i) (hl : ∀ i, i < w.heap.size → lab' i = lab i) : Qx K w' lab' k qb wb P nx vs L :=
  { h with
    box := (t.block qb (heap_lt h.box) (hF _ (heap_lt h.box) h.lq)).trans h.box
    row := (t.block wb (heap_lt h.row) (hF _ (heap_lt h.row) h.lw)).trans h.row
    own := fun i h1 h2 => own_turns (h.own i h1 h2) t (fun b e => hF b (own_lt (h.own i h1 h2) e) (h.lv i h1 b e))
    lq := (hl _ (heap_lt h.box)).trans h.lq
    lw := (hl _ (heap_lt h.row)).trans h.lw
    lv := fun i h1 b e => (hl b (own_lt (h.own i h1 (by rw [← h.len]; exact h1)) e)).trans (h.lv i h1 b e) }
/-- Another one's step leaves it. -/
theorem Qx.other {w w' : World} {lab : Nat → Nat} {k j qb wb P nx : Nat} {vs : List Value} {L : List (List E)} (h : Qx K w lab k qb wb P nx vs L) (t : Turns (fun i => lab i = j) w w') (hj : k ≠ j) : Qx K w' (rl lab w j) k qb wb P nx vs L :=
  h.turns t (fun _ _ e q => hj (e.symm.trans q)) (fun _ hi => rl_old hi)
theorem Qx.below {w w' : World} {lab : Nat → Nat} {k qb wb P nx : Nat} {vs : List Value} {L : List (List E)} (h : Qx K w lab k qb wb P nx vs L) (b : Below w.heap.size w w') (j : Nat) : Qx K w' (rl lab w j) k qb wb P nx vs L :=
  h.turns (Below.turns b (fun _ => False)) (fun _ _ _ q => q) (fun _ hi => rl_old hi)
theorem Qx.drew {w : World} {lab : Nat → Nat} {k qb wb P nx : Nat} {vs : List Value} {L : List (List E)} (h : Qx K w lab k qb wb P nx vs L) (m : Nat) : Qx K (w.drewN m) lab k qb wb P nx vs L :=
  h.turns (Turns.drewN (fun _ => False) w m) (fun _ _ _ q => q) (fun _ _ => rfl)
theorem Qx.c0 {w : World} {lab : Nat → Nat} {k qb wb P nx : Nat} {vs : List Value} {L : List (List E)} (h : Qx K w lab k qb wb P nx vs L) : w.cell? ⟨qb, 0, none⟩ = some (.int .i64 P) := by simp [World.cell?, h.box]
theorem Qx.c1 {w : World} {lab : Nat → Nat} {k qb wb P nx : Nat} {vs : List Value} {L : List (List E)} (h : Qx K w lab k qb wb P nx vs L) : w.cell? ⟨qb, 1, none⟩ = some (.int .i64 nx) := by simp [World.cell?, h.box]
theorem Qx.c2 {w : World} {lab : Nat → Nat} {k qb wb P nx : Nat} {vs : List Value} {L : List (List E)} (h : Qx K w lab k qb wb P nx vs L) : w.cell? ⟨qb, 2, none⟩ = some (.slice (some ⟨wb, 0, none⟩) L.length L.length) := by simp [World.cell?, h.box]
theorem Qx.cw {w : World} {lab : Nat → Nat} {k qb wb P nx : Nat} {vs : List Value} {L : List (List E)} (h : Qx K w lab k qb wb P nx vs L) (c : Nat) (hc : c < vs.length) : w.cell? ⟨wb, c, none⟩ = some vs[c] := by simp [World.cell?, h.row, hc]
theorem Qx.fw {w : World} {lab : Nat → Nat} {k qb wb P nx : Nat} {vs : List Value} {L : List (List E)} (h : Qx K w lab k qb wb P nx vs L) (c : Nat) : w.frozen? ⟨wb, c, none⟩ = false := by simp [World.frozen?, h.row]
theorem Qx.f1 {w : World} {lab : Nat → Nat} {k qb wb P nx : Nat} {vs : List Value} {L : List (List E)} (h : Qx K w lab k qb wb P nx vs L) (c : Nat) : w.frozen? ⟨qb, c, none⟩ = false := by simp [World.frozen?, h.box]
/-- One list becomes another one. -/
theorem Qx.set {w w' : World} {lab : Nat → Nat} {k qb wb P nx : Nat} {vs : List Value} {L : List (List E)} (h : Qx K w lab k qb wb P nx vs L) (c : Nat) (hc : c < L.length) (v : Value) (l : List E) (t : Turns (fun i => i = wb ∨ (vs[c]'(by rw [h.len]; exact hc)).ownBlock = some i) w w')
    (hrow : w'.heap[wb]? = some (.cells (vs.set c v).toArray K.ts)) (hown : w'.ownsRow 0 K.te K.sz v l.length (l.flatMap K.cs)) (hv : ∀ b, v.ownBlock = some b → (vs[c]'(by rw [h.len]; exact hc)).ownBlock = some b ∨ w.heap.size ≤ b) (hl : l.length ≤ P) :
    Qx K w' (rl lab w k) k qb wb P nx (vs.set c v) (L.set c l) := by
  have hcv : c < vs.length := by rw [h.len]; exact hc
  have hqw : qb ≠ wb := by
    rintro rfl
    have := h.box; rw [h.row] at this
    exact K.ne3 (Obj.cells.inj (Option.some.inj this)).2.1.symm
  have hq : w'.heap[qb]? = w.heap[qb]? := t.block qb (heap_lt h.box) (fun q => by
    rcases q with q | q
    · exact hqw q
    · exact own_typ (h.own c hcv hc) h.box K.ne1 q)
  refine ⟨?_, hrow, by simp [h.len], fun i h1 h2 => ?_, fun i j h1 h2 b hij hi hj => ?_, by rw [rl_old (heap_lt h.box)]; exact h.lq, by rw [rl_old (heap_lt h.row)]; exact h.lw, fun i h1 b hb => ?_, fun i h2 => ?_, h.hP, by simpa using h.hn, by simpa using h.hx⟩
  · rw [hq, h.box]; simp
  · by_cases e : i = c
    · subst e; simpa using hown
    · have h1' : i < vs.length := by simpa using h1
      have h2' : i < L.length := by simpa using h2
      have := own_turns (h.own i h1' h2') t (fun b hb q => by
        rcases q with q | q
        · subst q; exact own_typ (h.own i h1' h2') h.row K.ne2 hb
        · exact h.ne i c h1' hcv b e hb q)
      rw [List.getElem_set_ne (Ne.symm e), List.getElem_set_ne (Ne.symm e)]
      exact this
  · have h1' : i < vs.length := by simpa using h1
    have h2' : j < vs.length := by simpa using h2
    by_cases e : i = c
    · subst e
      rw [List.getElem_set_self] at hi
      rw [List.getElem_set_ne hij] at hj
      rcases hv b hi with q | q
      · exact h.ne i j h1' h2' b hij q hj
      · have := own_lt (h.own j h2' (by rw [← h.len]; exact h2')) hj; omega
    · rw [List.getElem_set_ne (Ne.symm e)] at hi
      by_cases e2 : j = c
      · subst e2
        rw [List.getElem_set_self] at hj
        rcases hv b hj with q | q
        · exact h.ne i j h1' h2' b hij hi q
        · have := own_lt (h.own i h1' (by rw [← h.len]; exact h1')) hi; omega
      · rw [List.getElem_set_ne (Ne.symm e2)] at hj
        exact h.ne i j h1' h2' b hij hi hj
  · have h1' : i < vs.length := by simpa using h1
    by_cases e : i = c
    · subst e
      rw [List.getElem_set_self] at hb
      rcases hv b hb with q | q
      · rw [rl_old (own_lt (h.own i h1' hc) q)]; exact h.lv i h1' b q
      · exact rl_new q
    · rw [List.getElem_set_ne (Ne.symm e)] at hb
      rw [rl_old (own_lt (h.own i h1' (by rw [← h.len]; exact h1')) hb)]; exact h.lv i h1' b hb
  · by_cases e : i = c
    · subst e; simpa using hl
    · rw [List.getElem_set_ne (Ne.symm e)]; exact h.le i (by simpa using h2)
/-- The next client is told. -/
theorem Qx.next {w : World} {lab : Nat → Nat} {k qb wb P nx : Nat} {vs : List Value} {L : List (List E)} (h : Qx K w lab k qb wb P nx vs L) (y : Nat) (hy : y < L.length) :
    Qx K (w.setCell ⟨qb, 1, none⟩ (.int .i64 y)) lab k qb wb P y vs L ∧ Turns (fun i => lab i = k) w (w.setCell ⟨qb, 1, none⟩ (.int .i64 y)) := by
  have t := Turns.cell w qb 1 (.int .i64 y)
  have hqw : wb ≠ qb := by
    rintro rfl
    have := h.box; rw [h.row] at this
    exact K.ne3 (Obj.cells.inj (Option.some.inj this)).2.1.symm
  refine ⟨{ h with box := heap_setCell_same _ _ _ _ _ _ h.box, row := (t.block wb (heap_lt h.row) hqw).trans h.row, own := fun i h1 h2 => own_turns (h.own i h1 h2) t (fun b hb q => by subst q; exact own_typ (h.own i h1 h2) h.box K.ne1 hb), hx := hy }, t.mono (fun i _ q => by subst q; exact h.lq)⟩
/-- A queue, wherever it lies. -/
def Qu (K : Kd E) (w : World) (lab : Nat → Nat) (k qb P nx : Nat) (L : List (List E)) : Prop := ∃ wb vs, Qx K w lab k qb wb P nx vs L
theorem Qu.other {w w' : World} {lab : Nat → Nat} {k j qb P nx : Nat} {L : List (List E)} (h : Qu K w lab k qb P nx L) (t : Turns (fun i => lab i = j) w w') (hj : k ≠ j) : Qu K w' (rl lab w j) k qb P nx L := by
  obtain ⟨wb, vs, h⟩ := h; exact ⟨wb, vs, h.other t hj⟩
theorem Qu.below {w w' : World} {lab : Nat → Nat} {k qb P nx : Nat} {L : List (List E)} (h : Qu K w lab k qb P nx L) (b : Below w.heap.size w w') (j : Nat) : Qu K w' (rl lab w j) k qb P nx L := by
  obtain ⟨wb, vs, h⟩ := h; exact ⟨wb, vs, h.below b j⟩
theorem Qu.drew {w : World} {lab : Nat → Nat} {k qb P nx : Nat} {L : List (List E)} (h : Qu K w lab k qb P nx L) (m : Nat) : Qu K (w.drewN m) lab k qb P nx L := by
  obtain ⟨wb, vs, h⟩ := h; exact ⟨wb, vs, h.drew m⟩
theorem Qu.turns {F : Nat → Prop} {w w' : World} {lab lab' : Nat → Nat} {k qb P nx : Nat} {L : List (List E)} (h : Qu K w lab k qb P nx L) (t : Turns F w w') (hF : ∀ i, i < w.heap.size → lab i = k → ¬ F i) (hl : ∀ i, i < w.heap.size → lab' i = lab i) : Qu K w' lab' k qb P nx L := by
  obtain ⟨wb, vs, h⟩ := h; exact ⟨wb, vs, h.turns t hF hl⟩
theorem Qu.hn {w : World} {lab : Nat → Nat} {k qb P nx : Nat} {L : List (List E)} (h : Qu K w lab k qb P nx L) : L.length ≤ 64 := by obtain ⟨wb, vs, h⟩ := h; exact h.hn
theorem Qu.hP {w : World} {lab : Nat → Nat} {k qb P nx : Nat} {L : List (List E)} (h : Qu K w lab k qb P nx L) : P ≤ 64 := by obtain ⟨wb, vs, h⟩ := h; exact h.hP
theorem Qu.hx {w : World} {lab : Nat → Nat} {k qb P nx : Nat} {L : List (List E)} (h : Qu K w lab k qb P nx L) : nx < L.length := by obtain ⟨wb, vs, h⟩ := h; exact h.hx
theorem Qu.le {w : World} {lab : Nat → Nat} {k qb P nx : Nat} {L : List (List E)} (h : Qu K w lab k qb P nx L) (i : Nat) (h2 : i < L.length) : L[i].length ≤ P := by obtain ⟨wb, vs, h⟩ := h; exact h.le i h2
/-- A list is written over: its new form is laid into its place. -/
theorem Qx.stored {w wC : World} {lab : Nat → Nat} {k qb wb P nx : Nat} {vs : List Value} {L : List (List E)} (h : Qx K w lab k qb wb P nx vs L) (c : Nat) (hc : c < L.length) (v : Value) (l : List E) (t : Turns (fun i => (vs[c]'(by rw [h.len]; exact hc)).ownBlock = some i) w wC)
    (hown : wC.ownsRow 0 K.te K.sz v l.length (l.flatMap K.cs)) (hv : ∀ b, v.ownBlock = some b → (vs[c]'(by rw [h.len]; exact hc)).ownBlock = some b ∨ w.heap.size ≤ b) (hl : l.length ≤ P) :
    Qu K (wC.setCell ⟨wb, c, none⟩ v) (rl lab w k) k qb P nx (L.set c l) ∧ Turns (fun i => lab i = k) w (wC.setCell ⟨wb, c, none⟩ v) := by
  have hcv : c < vs.length := by rw [h.len]; exact hc
  have hrC : wC.heap[wb]? = some (.cells vs.toArray K.ts) := (t.block wb (heap_lt h.row) (own_typ (h.own c hcv hc) h.row K.ne2)).trans h.row
  have t2 := Turns.cell wC wb c v
  have T : Turns (fun i => i = wb ∨ (vs[c]'hcv).ownBlock = some i) w (wC.setCell ⟨wb, c, none⟩ v) := (t.mono (fun _ _ q => Or.inr q)).trans t2 (fun _ _ q => Or.inl q)
  have hrow := heap_setCell_same _ _ c _ _ v hrC
  refine ⟨⟨wb, _, h.set c hc v l T (by rw [hrow]; simp) (own_turns hown t2 (fun b hb q => by subst q; exact own_typ hown hrC K.ne2 hb)) hv hl⟩, T.mono (fun i _ q => ?_)⟩
  rcases q with q | q
  · subst q; exact h.lw
  · exact h.lv c hcv i q
end Go.Proofs.YtjkmdacgiebbfaaDoor
