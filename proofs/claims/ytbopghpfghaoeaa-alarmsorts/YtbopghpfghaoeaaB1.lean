/- The book of lists that were handed out: in memory. -/
import Derived.Test.YtbopghpfghaoeaaAB
import Derived.Test.YtbopghpfghaoeaaSplit
namespace Go.Proofs.Ytbopghpfghaoeaa
open Go.RowKit Go.Maps
set_option maxRecDepth 100000

abbrev mk (n : Nat) (x : Int) : List Value := List.replicate n (Value.int .i64 x)
theorem mk_succ (n : Nat) (x : Int) : mk n x ++ [.int .i64 x] = mk (n + 1) x := by rw [mk, mk, List.replicate_succ']
theorem mk_two (n : Nat) (x : Int) : mk n x ++ [.int .i64 x, .int .i64 x] = mk (n + 2) x := by
  rw [← mk_succ (n + 1), ← mk_succ n, List.append_assoc]; rfl
theorem rep_set (a : Value) (i : Nat) (l : List Value) (h : i < l.length) : (List.replicate i a ++ l.drop i).set i a = List.replicate (i + 1) a ++ l.drop (i + 1) := by
  rw [List.set_append_right _ _ (by simp), List.length_replicate, Nat.sub_self, List.drop_eq_getElem_cons h, List.set_cons_zero, List.replicate_succ', List.append_assoc]
  rfl
theorem own_cut {w : World} {base e g cap m : Nat} {a : Int} : ∀ (d n : Nat), w.ownsRow base e 1 (.slice (some ⟨g, 0, none⟩) (n + d) cap) (n + d) (mk (n + d) a) → w.ownsRow base e 1 (.slice (some ⟨g, 0, none⟩) n cap) n (mk n a)
  | 0, n, h => h
  | d + 1, n, h => by
    have h1 : w.ownsRow base e 1 (.slice (some ⟨g, 0, none⟩) (n + d) cap) (n + d) ((mk (n + d + 1) a).take ((n + d) * 1)) := own_short h
    rw [Nat.mul_one, List.take_replicate, Nat.min_eq_left (by omega)] at h1
    exact own_cut (m := m) d n h1
/-- Another list with the same mark, behind an append. -/
theorem own_after {w w' : World} {n m N k : Nat} {a : Int} {x v v' : Value} (hx : w.ownsRow 0 3 1 x n (mk n a)) (hv : w.ownsRow 0 3 1 v N (mk N a)) (hv' : w'.ownsRow 0 3 1 v' k (mk k a)) (l : Laid w w' v v' N k) (hn : n ≤ k) : w'.ownsRow 0 3 1 x n (mk n a) := by
  rcases l with ⟨g, cap, h1, h2, h3⟩ | ⟨cap', h1, h2⟩
  · by_cases q : x.ownBlock = some g
    · subst h1 h2
      rcases hx.2 with ⟨q1, rfl⟩ | ⟨g2, cap2, cur2, q1, q2, q3, q4, q5, q6, _⟩
      · subst q1; cases q
      · subst q1; cases q
        rcases hv.2 with ⟨r1, _⟩ | ⟨g3, cap3, cur3, r1, r2, r3, r4, r5, r6, _⟩
        · cases r1
        · cases r1
          rw [q3] at r3
          cases r3
          obtain rfl : cap2 = cap := by omega
          have := own_cut (m := m) (k - n) n (by rw [Nat.add_sub_cancel' hn]; exact hv')
          exact this
    · exact hx.kept h3 (Or.inr q)
  · exact hx.kept h2 (by cases h : x.ownBlock <;> simp)
/-- A list of the book: its value, how long it is. -/
structure Ke where
  v : Value
  n : Nat
/-- The book: box kb; its lists are labelled 3, its own rows 5. -/
structure Bo (w : World) (lab : Nat → Nat) (kb : Nat) (Lv Nv : Value) (es : List Ke) : Prop where
  box : w.heap[kb]? = some (.cells #[Lv, Nv] 71)
  rowL : w.ownsRow 0 29 1 Lv es.length (es.map (·.v))
  rowN : w.ownsRow 0 3 1 Nv es.length (es.map (fun e => Value.int .i64 e.n))
  lk : lab kb = 5
  lL : ∀ b, Lv.ownBlock = some b → lab b = 5
  lN : ∀ b, Nv.ownBlock = some b → lab b = 5
  ent : ∀ (i : Nat) e, es[i]? = some e → w.ownsRow 0 3 1 e.v e.n (mk e.n (-1 - (i / 3 : Nat))) ∧ (∀ b, e.v.ownBlock = some b → lab b = 3) ∧ e.n ≤ 4000000
  hl : es.length ≤ 4000000
theorem Bo.turns {F : Nat → Prop} {w w' : World} {lab lab' : Nat → Nat} {kb : Nat} {Lv Nv : Value} {es : List Ke} (h : Bo w lab kb Lv Nv es) (t : Turns F w w') (hF : ∀ i, i < w.heap.size → (lab i = 3 ∨ lab i = 5) → ¬ F i) (hl : ∀ i, i < w.heap.size → (lab i = 3 ∨ lab i = 5) → lab' i = lab i) : Bo w' lab' kb Lv Nv es :=
  { h with
    box := (t.block kb (heap_lt h.box) (hF _ (heap_lt h.box) (Or.inr h.lk))).trans h.box
    rowL := own_turns h.rowL t (fun b e => hF b (own_lt h.rowL e) (Or.inr (h.lL b e)))
    rowN := own_turns h.rowN t (fun b e => hF b (own_lt h.rowN e) (Or.inr (h.lN b e)))
    lk := (hl _ (heap_lt h.box) (Or.inr h.lk)).trans h.lk
    lL := fun b e => (hl b (own_lt h.rowL e) (Or.inr (h.lL b e))).trans (h.lL b e)
    lN := fun b e => (hl b (own_lt h.rowN e) (Or.inr (h.lN b e))).trans (h.lN b e)
    ent := fun i e he => by
      obtain ⟨h1, h2, h3⟩ := h.ent i e he
      exact ⟨own_turns h1 t (fun b q => hF b (own_lt h1 q) (Or.inl (h2 b q))), fun b q => (hl b (own_lt h1 q) (Or.inl (h2 b q))).trans (h2 b q), h3⟩ }
/-- The book, wherever its rows lie. -/
def Bw (w : World) (lab : Nat → Nat) (kb : Nat) (es : List Ke) : Prop := ∃ Lv Nv, Bo w lab kb Lv Nv es
theorem Bw.turns {F : Nat → Prop} {w w' : World} {lab lab' : Nat → Nat} {kb : Nat} {es : List Ke} (h : Bw w lab kb es) (t : Turns F w w') (hF : ∀ i, i < w.heap.size → (lab i = 3 ∨ lab i = 5) → ¬ F i) (hl : ∀ i, i < w.heap.size → (lab i = 3 ∨ lab i = 5) → lab' i = lab i) : Bw w' lab' kb es := by
  obtain ⟨Lv, Nv, h⟩ := h
  exact ⟨Lv, Nv, h.turns t hF hl⟩
/-- How many there are. -/
theorem Bw.len {w : World} {lab : Nat → Nat} {kb : Nat} {es : List Ke} (h : Bw w lab kb es) : es.length ≤ 4000000 := by
  obtain ⟨Lv, Nv, h⟩ := h
  exact h.hl
end Go.Proofs.Ytbopghpfghaoeaa
