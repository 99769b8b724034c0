/- Plays beside one another: how one is made, what all hold. -/
import Derived.Test.YtpbanjgjljdepaaKT4
namespace Go.Proofs.Ytpbanjgjljdepaa
open Go.RowKit Go.Maps
set_option maxRecDepth 100000
variable {w w' w0 w1 W W' : World} {lab lab' L : Nat → Nat} {k j pb c xb : Nat} {a b : Nat → Nat} {v bv bv' l rv : Value} {st : Int} {lg : Bool} {F : Nat → Prop} {S R : Nat → St} {es : List Ke} {B B' : Int} {n m : Nat}
def pA (a : Nat → Nat) (n c : Nat) : Value := if c < n then .pointer (some ⟨a c, 0, none⟩) else .pointer none
theorem pA_old {x : Nat} (h : c ≠ n) : pA (upd2 a n x) (n + 1) c = pA a n c := by
  unfold pA
  rw [upd2_off _ _ _ _ h]
  by_cases q : c < n
  · rw [if_pos q, if_pos (by omega)]
  · rw [if_neg q, if_neg (by omega)]
theorem pA_new {x : Nat} : pA (upd2 a n x) (n + 1) n = .pointer (some ⟨x, 0, none⟩) := by unfold pA; rw [if_pos (by omega), upd2_at]
abbrev hfC (a b : Nat → Nat) (n m : Nat) : Array Value := #[pA a n 0, pA a n 1, pA b m 0, pA b m 1, .slice none 0 0, .int .i64 0, .bool false]
/-- A play that is being made: n of the program's nets, m of the document's stand. -/
structure Hf (w : World) (lab : Nat → Nat) (k pb n m : Nat) (a b : Nat → Nat) : Prop where
  box : w.heap[pb]? = some (.cells (hfC a b n m) 71 (0, 0))
  n : ∀ c, c < n → Nt w lab (k + c) (a c) S0
  d : ∀ c, c < m → Dn w lab (k + 2 + c) (b c) S0
  lb : lab pb = k + 5
theorem Hf.below (h : Hf w lab k pb n m a b) (u : Below w.heap.size w w') (q : Nat) : Hf w' (rl lab w q) k pb n m a b :=
  ⟨(u.block pb (heap_lt h.box)).trans h.box, fun c hc => (h.n c hc).turns (Below.turns u (fun _ => False)) (fun _ _ _ q => q) (fun _ hi r => (rl_old hi).trans r), fun c hc => (h.d c hc).turns (Below.turns u (fun _ => False)) (fun _ _ _ q => q) (fun _ hi r => (rl_old hi).trans r), (rl_old (heap_lt h.box)).trans h.lb⟩
theorem Hf.fz (h : Hf w lab k pb n m a b) (i : Nat) : w.frozen? ⟨pb, i, none⟩ = false := by
  simp only [World.frozen?]; rw [h.box]; simp
theorem Hf.cell (h : Hf w lab k pb n m a b) (i : Nat) (u : Value) (hu : (hfC a b n m)[i]? = some u) : w.cell? ⟨pb, i, none⟩ = some u := by
  simp only [World.cell?]; rw [h.box]; simpa using hu
theorem Hf.frame (h : Hf w lab k pb n m a b) (u : Below w.heap.size w w1) (q : Nat) (t : Turns (fun i => i = pb) w1 w') : Fr k w w' lab (rl lab w q) := by
  have hb := heap_lt h.box
  exact (Fr.below u q).trans ⟨t.mono (fun i _ r => by subst r; rw [rl_old hb]; exact ⟨by have := h.lb; omega, by have := h.lb; omega⟩), fun _ _ _ => rfl⟩
theorem Hf.stepA (h : Hf w lab k pb n m a b) (hn : n < 2) (hm : m ≤ 2) (u : Below w.heap.size w w1) (hN : Nt w1 (rl lab w (k + n)) (k + n) xb S0) (hw : w' = w1.setCell ⟨pb, n, none⟩ (.pointer (some ⟨xb, 0, none⟩))) : Hf w' (rl lab w (k + n)) k pb (n + 1) m (upd2 a n xb) b ∧ Fr k w w' lab (rl lab w (k + n)) := by
  have g := h.below u (k + n)
  have t : Turns (fun i => i = pb) w1 w' := by rw [hw]; exact Turns.cell w1 pb n _
  have no : ∀ q, q ≠ k + 5 → ∀ i, i < w1.heap.size → rl lab w (k + n) i = q → ¬ i = pb := fun q hq i _ r s => hq (by rw [← r, s]; exact g.lb)
  refine ⟨⟨?_, fun e he => ?_, fun e he => (g.d e he).turns t (no _ (by omega)) (fun _ _ q => q), g.lb⟩, h.frame u _ t⟩
  · rw [hw, heap_setCell_same _ _ _ _ _ _ g.box]
    have : n = 0 ∨ n = 1 := by omega
    rcases this with rfl | rfl
    · simp only [hfC, pA_new (a := a) (n := 0), pA_old (a := a) (n := 0) (c := 1) (x := xb) (by decide)]; rfl
    · simp only [hfC, pA_new (a := a) (n := 1), pA_old (a := a) (n := 1) (c := 0) (x := xb) (by decide)]; rfl
  · by_cases q : e = n
    · subst q; rw [upd2_at]; exact hN.turns t (no _ (by omega)) (fun _ _ q => q)
    · rw [upd2_off _ _ _ _ q]; exact (g.n e (by omega)).turns t (no _ (by omega)) (fun _ _ q => q)
theorem Hf.stepB (h : Hf w lab k pb n m a b) (hn : m < 2) (hm : n ≤ 2) (u : Below w.heap.size w w1) (hN : Dn w1 (rl lab w (k + 2 + m)) (k + 2 + m) xb S0) (hw : w' = w1.setCell ⟨pb, 2 + m, none⟩ (.pointer (some ⟨xb, 0, none⟩))) : Hf w' (rl lab w (k + 2 + m)) k pb n (m + 1) a (upd2 b m xb) ∧ Fr k w w' lab (rl lab w (k + 2 + m)) := by
  have g := h.below u (k + 2 + m)
  have t : Turns (fun i => i = pb) w1 w' := by rw [hw]; exact Turns.cell w1 pb (2 + m) _
  have no : ∀ q, q ≠ k + 5 → ∀ i, i < w1.heap.size → rl lab w (k + 2 + m) i = q → ¬ i = pb := fun q hq i _ r s => hq (by rw [← r, s]; exact g.lb)
  refine ⟨⟨?_, fun e he => ?_, fun e he => ?_, g.lb⟩, h.frame u _ t⟩
  · rw [hw, heap_setCell_same _ _ _ _ _ _ g.box]
    have : m = 0 ∨ m = 1 := by omega
    rcases this with rfl | rfl
    · simp only [hfC, pA_new (a := b) (n := 0), pA_old (a := b) (n := 0) (c := 1) (x := xb) (by decide)]; rfl
    · simp only [hfC, pA_new (a := b) (n := 1), pA_old (a := b) (n := 1) (c := 0) (x := xb) (by decide)]; rfl
  · exact (g.n e he).turns t (no _ (by omega)) (fun _ _ q => q)
  · by_cases q : e = m
    · subst q; rw [upd2_at]; exact hN.turns t (no _ (by omega)) (fun _ _ q => q)
    · rw [upd2_off _ _ _ _ q]; exact (g.d e (by omega)).turns t (no _ (by omega)) (fun _ _ q => q)
/-- It stands. -/
theorem Hf.pl (h : Hf w lab k pb 2 2 a b) : Pl w lab k pb a b (.slice none 0 0) 0 false (fun _ => S0) (fun _ => S0) [] :=
  ⟨h.box, h.n, h.d, Bk.nil _ _, h.lb, by simp, fun _ _ _ f hf => by cases hf⟩
/-- A play, whatever it holds. -/
def Py (w : World) (lab : Nat → Nat) (k pb : Nat) (B : Int) : Prop :=
  ∃ a b bv st lg S es, Pl w lab k pb a b bv st lg S S es ∧ es.length ≤ 900 ∧ ∀ c, c < 2 → (S c).last ≤ B
theorem Py.more (h : Py w lab k pb B) (hB : B ≤ B') : Py w lab k pb B' := by
  obtain ⟨a, b, bv, st, lg, S, es, h1, h2, h3⟩ := h
  exact ⟨a, b, bv, st, lg, S, es, h1, h2, fun c hc => Int.le_trans (h3 c hc) hB⟩
theorem Py.turns (h : Py w lab k pb B) (t : Turns F w w') (hF : ∀ i, i < w.heap.size → Mine k (lab i) → ¬ F i) (hl : ∀ i, i < w.heap.size → Mine k (lab i) → lab' i = lab i) : Py w' lab' k pb B := by
  obtain ⟨a, b, bv, st, lg, S, es, h1, h2, h3⟩ := h
  exact ⟨a, b, bv, st, lg, S, es, h1.turns t hF hl, h2, h3⟩
/-- n plays and the row of them. -/
structure Tn (w0 w : World) (lab : Nat → Nat) (rv : Value) (pb : Nat → Nat) (n : Nat) (B : Int) : Prop where
  row : w.ownsRow 0 66 1 rv n ((List.range n).map fun i => Value.pointer (some ⟨pb i, 0, none⟩))
  lr : ∀ b, rv.ownBlock = some b → lab b = 7
  pl : ∀ i, i < n → Py w lab (7 * i + 1) (pb i) B
  wk : Wk w0 lab w
theorem Tn.fr {pb : Nat → Nat} (h : Tn w0 w lab rv pb n B) (f : Fr (7 * m + 1) w w' lab lab') (hp : m < n → Py w' lab' (7 * m + 1) (pb m) B') (hB : B ≤ B') : Tn w0 w' lab' rv pb n B' := by
  refine ⟨own_turns h.row f.t (fun b q r => by have := r.1; have := r.2; have := h.lr b q; omega), fun b q => (f.hl b (own_lt h.row q) (fun r => by have := r.1; have := r.2; have := h.lr b q; omega)).trans (h.lr b q), fun i hi => ?_, f.wk h.wk (by omega)⟩
  by_cases q : i = m
  · subst q; exact hp hi
  · have ne : ∀ x, Mine (7 * i + 1) x → ¬ Mine (7 * m + 1) x := fun x h1 h2 => by
      have := h1.1; have := h1.2; have := h2.1; have := h2.2; omega
    exact ((h.pl i hi).turns f.t (fun i' _ r => ne _ r) (fun i' hi' r => f.hl i' hi' (ne _ r))).more hB
theorem Tn.below {pb : Nat → Nat} (h : Tn w0 w lab rv pb n B) (u : Below w.heap.size w w') (q : Nat) : Tn w0 w' (rl lab w q) rv pb n B :=
  ⟨own_turns h.row (Below.turns u (fun _ => False)) (fun _ _ r => r), fun b r => (rl_old (own_lt h.row r)).trans (h.lr b r), fun i hi => (h.pl i hi).turns (Below.turns u (fun _ => False)) (fun _ _ _ r => r) (fun _ hi' _ => rl_old hi'), h.wk.below u q⟩
/-- One more play joins the row. -/
theorem Tn.push {pb : Nat → Nat} {xb : Nat} {rv' : Value} (h : Tn w0 w lab rv pb n B) (hp : Py w lab (7 * n + 1) xb B) (t : Turns (fun i => rv.ownBlock = some i) w w') (hr : w'.ownsRow 0 66 1 rv' (n + 1) (((List.range n).map fun i => Value.pointer (some ⟨pb i, 0, none⟩)) ++ [.pointer (some ⟨xb, 0, none⟩)])) (ha : ∀ b, rv'.ownBlock = some b → rv.ownBlock = some b ∨ w.heap.size ≤ b) : Tn w0 w' (rl lab w 7) rv' (fun i => if i = n then xb else pb i) (n + 1) B := by
  have nm : ∀ i m, i < w.heap.size → Mine (7 * m + 1) (lab i) → ¬ rv.ownBlock = some i := fun i m _ q r => by have := q.1; have := q.2; have := h.lr i r; omega
  have hps : ((List.range (n + 1)).map fun i => Value.pointer (some ⟨if i = n then xb else pb i, 0, none⟩)) = ((List.range n).map fun i => Value.pointer (some ⟨pb i, 0, none⟩)) ++ [.pointer (some ⟨xb, 0, none⟩)] := by
    rw [List.range_succ, List.map_append]
    congr 1
    · exact List.map_congr_left fun i hi => by rw [if_neg (by have := List.mem_range.1 hi; omega)]
    · simp
  refine ⟨by rw [hps]; exact hr, fun b q => ?_, fun i hi => ?_, h.wk.turns t (fun i q => by rw [h.lr i q]; decide) (fun i hi => rl_old (Nat.lt_of_lt_of_le hi h.wk.b.size))⟩
  · rcases ha b q with r | r
    · rw [rl_old (own_lt h.row r)]; exact h.lr b r
    · exact rl_new r
  · by_cases q : i = n
    · subst q
      rw [if_pos rfl]
      exact hp.turns t (fun i' hi' r => nm i' _ hi' r) (fun _ hi' _ => rl_old hi')
    · rw [if_neg q]
      exact (h.pl i (by omega)).turns t (fun i' hi' r => nm i' _ hi' r) (fun _ hi' _ => rl_old hi')
/-- A play in its row. -/
theorem Tn.at {pb : Nat → Nat} (h : Tn w0 w lab rv pb n B) {i : Nat} (hi : i < n) : ∃ g c, rv = .slice (some ⟨g, 0, none⟩) n c ∧ n ≤ c ∧ w.cell? ⟨g, i, none⟩ = some (.pointer (some ⟨pb i, 0, none⟩)) := by
  rcases h.row.2 with ⟨_, h0⟩ | ⟨g, cap, cur, hv, _, _, hnc, _⟩
  · omega
  · have hr := h.row
    rw [hv] at hr
    exact ⟨g, cap, hv, hnc, by rw [hr.cellAt i (by omega)]; simp [hi]⟩
/-- The book's front is cut off. -/
theorem Pl.cutB {bw : Value} (h : Pl w lab k pb a b bv st lg S R es) (q : Nat) (u : Below w.heap.size w w1) (hr : w1.ownsRow w.heap.size 90 3 bw (es.length - q) (kcs (es.drop q))) (hw : w' = w1.setCell ⟨pb, 4, none⟩ bw) : Pl w' (rl lab w (k + 4)) k pb a b bw st lg S R (es.drop q) ∧ Fr k w w' lab (rl lab w (k + 4)) := by
  have g := h.below u (k + 4)
  have t : Turns (fun i => i = pb) w1 w' := by rw [hw]; exact Turns.cell w1 pb 4 _
  have no : ∀ q, q ≠ k + 5 → ∀ i, i < w1.heap.size → rl lab w (k + 4) i = q → ¬ i = pb := fun q hq i _ r s => hq (by rw [← r, s]; exact g.lb)
  have hb := heap_lt h.box
  have hB := h.bk.cut q u hr
  refine ⟨⟨?_, fun e he => (g.n e he).turns t (no _ (by omega)) (fun _ _ q => q), fun e he => (g.d e he).turns t (no _ (by omega)) (fun _ _ q => q), ?_, g.lb, by have := h.few; rw [List.length_drop]; omega, h.short⟩, (Fr.below u (k + 4)).trans ⟨t.mono (fun i _ r => by subst r; rw [g.lb]; exact ⟨by omega, by omega⟩), fun _ _ _ => rfl⟩⟩
  · rw [hw, heap_setCell_same _ _ _ _ _ _ g.box]; rfl
  · refine (hB.turns t (fun i r s => ?_)).mono (fun i r => ?_)
    · subst s
      rcases r with r | r
      · have : lab i = k + 4 := r; have := h.lb; omega
      · omega
    · rcases r with r | r
      · by_cases hi : i < w.heap.size
        · rw [rl_old hi]; exact r
        · exact rl_new (by omega)
      · exact rl_new r.1
theorem Op.Lie.at2 {ao : Option Addr} {n i : Nat} {os : List Op} (h : Op.Lie w ao n os) (hi : i < n) : ∃ (g a : Nat) (o : Op), os[i]? = some o ∧ ao = some ⟨g, a, none⟩ ∧ o.In w ∧ ∀ W : World, Below w.heap.size w W → ∀ (t : Nat) (v : Value), o.cells[t]? = some v → W.cell? ⟨g, a + (i * 8 + t), none⟩ = some v := by
  obtain ⟨o, ho⟩ : ∃ o, os[i]? = some o := ⟨_, List.getElem?_eq_getElem (by rw [h.hlen]; exact hi)⟩
  obtain ⟨h1, g, a, e, h2⟩ := h.hat i o ho
  exact ⟨g, a, o, ho, e, h1, fun W b t v hv => cell_later b (h2 t v hv)⟩
theorem Tn.more {pb : Nat → Nat} (h : Tn w0 w lab rv pb n B) (hB : B ≤ B') : Tn w0 w lab rv pb n B' :=
  ⟨h.row, h.lr, fun i hi => (h.pl i hi).more hB, h.wk⟩
end Go.Proofs.Ytpbanjgjljdepaa
