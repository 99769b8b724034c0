/- Lists of inodes that were handed out, each written full with a mark: in memory. -/
import Derived.Test.YtlcjkbhcbiggcaaGreatDoorBV
import Derived.Test.YtlcjkbhcbiggcaaGreatDoorSplit
namespace Go.Proofs.YtlcjkbhcbiggcaaGreatDoor
open Go.RowKit Go.Maps
set_option maxRecDepth 100000

theorem own_lt9 {w : World} {base e s n : Nat} {v : Value} {xs : List Value} (h : w.ownsRow base e s v n xs) {b : Nat} (hb : v.ownBlock = some b) : b < w.heap.size := (h.lt b hb).2
theorem own_shape9 {w : World} {base e s n : Nat} {v : Value} {xs : List Value} (h : w.ownsRow base e s v n xs) : (v = .slice none 0 0 ∧ n = 0) ∨ ∃ g cap, v = .slice (some ⟨g, 0, none⟩) n cap ∧ n ≤ cap ∧ cap ≤ maxLen := by
  rcases h.2 with ⟨h1, h2⟩ | ⟨g, cap, cur, h1, _, _, h4, h5, _⟩
  · exact Or.inl ⟨h1, h2⟩
  · exact Or.inr ⟨g, cap, h1, h4, h5⟩
theorem own_slice9 {w : World} {base e s n : Nat} {v : Value} {xs : List Value} (h : w.ownsRow base e s v n xs) : ∃ ao cap, v = .slice ao n cap := by
  rcases own_shape9 h with ⟨rfl, rfl⟩ | ⟨g, cap, rfl, _⟩
  · exact ⟨_, _, rfl⟩
  · exact ⟨_, _, rfl⟩
theorem own_short9 {w : World} {base e size g n cap : Nat} {xs : List Value} (h : w.ownsRow base e size (.slice (some ⟨g, 0, none⟩) (n + 1) cap) (n + 1) xs) : w.ownsRow base e size (.slice (some ⟨g, 0, none⟩) n cap) n (xs.take (n * size)) := by
  have hl := h.1
  have hm : n * size ≤ (n + 1) * size := Nat.mul_le_mul_right _ (Nat.le_succ n)
  refine ⟨by rw [List.length_take, hl, Nat.min_eq_left hm], ?_⟩
  rcases h.2 with ⟨q, _⟩ | ⟨g', cap', cur, q, h1, h2, h3, h4, h5, h6⟩
  · cases q
  · cases q
    refine Or.inr ⟨g, cap, cur, rfl, h1, h2, by omega, h4, h5, ?_⟩
    rw [← h6, List.take_take, Nat.min_eq_left hm]
/-- The mark. -/
def mrkI (a : Int) : Ino := { ino0 with id := a }
abbrev mrk (n : Nat) (a : Ino) : List Value := inLs (List.replicate n a)
theorem mrk_succ (n : Nat) (a : Ino) : mrk n a ++ (inA a).toList = mrk (n + 1) a := by
  rw [mrk, mrk, ← inLs_snoc, List.replicate_succ']
theorem mrk_len (n : Nat) (a : Ino) : (mrk n a).length = n * 13 := by rw [mrk, inLs_len, List.length_replicate]
theorem mrk_take (n : Nat) (a : Ino) : (mrk (n + 1) a).take (n * 13) = mrk n a := by
  rw [← mrk_succ, List.take_append_of_le_length (by rw [mrk_len]; exact Nat.le_refl _), List.take_of_length_le (by rw [mrk_len]; exact Nat.le_refl _)]
theorem own_cut9 {w : World} {base e g cap : Nat} {a : Ino} : ∀ (d n : Nat), w.ownsRow base e 13 (.slice (some ⟨g, 0, none⟩) (n + d) cap) (n + d) (mrk (n + d) a) → w.ownsRow base e 13 (.slice (some ⟨g, 0, none⟩) n cap) n (mrk n a)
  | 0, _, h => h
  | d + 1, n, h => by
    have h1 : w.ownsRow base e 13 (.slice (some ⟨g, 0, none⟩) (n + d) cap) (n + d) ((mrk (n + d + 1) a).take ((n + d) * 13)) := own_short9 h
    rw [mrk_take] at h1
    exact own_cut9 d n h1
/-- Another list with the same mark, behind an append. -/
theorem own_after9 {w w' : World} {n N k : Nat} {a : Ino} {x v v' : Value} (hx : w.ownsRow 0 38 13 x n (mrk n a)) (hv : w.ownsRow 0 38 13 v N (mrk N a)) (hv' : w'.ownsRow 0 38 13 v' k (mrk k a)) (l : Laid w w' v v' N k) (hn : n ≤ k) : w'.ownsRow 0 38 13 x n (mrk n a) := by
  rcases l with ⟨g, cap, h1, h2, h3⟩ | ⟨cap', h1, h2⟩
  · by_cases q : x.ownBlock = some g
    · subst h1 h2
      rcases hx.2 with ⟨q1, rfl⟩ | ⟨g2, cap2, cur2, q1, q2, q3, q4, q5, q6, _⟩
      · subst q1; cases q
      · subst q1; cases q
        rcases hv.2 with ⟨r1, _⟩ | ⟨g3, cap3, cur3, r1, r2, r3, r4, r5, r6, _⟩
        · cases r1
        · cases r1
          rw [q3] at r3
          cases r3
          obtain rfl : cap2 = cap := by omega
          exact own_cut9 (k - n) n (by rw [Nat.add_sub_cancel' hn]; exact hv')
    · exact hx.kept h3 (Or.inr q)
  · exact hx.kept h2 (by cases h : x.ownBlock <;> simp)
/-- What a list's appends leave: only v's block of the old ones. -/
theorem Laid.step9 {w wr w3 : World} {v gv g' : Value} {N k : Nat} {o : Obj} (hgb : ∀ b, gv.ownBlock = some b → v.ownBlock = some b ∨ w.heap.size ≤ b) (t : Turns (fun i => v.ownBlock = some i) w wr) (l : Laid (wr.alloc o) w3 gv g' N k) : Turns (fun i => v.ownBlock = some i) w w3 ∧ ∀ b, g'.ownBlock = some b → v.ownBlock = some b ∨ w.heap.size ≤ b := by
  have hs := t.size
  have ta := t.trans (Turns.alloc (fun _ => False) wr o) (fun _ _ q => q.elim)
  rcases l with ⟨g, cap, h1, h2, h3⟩ | ⟨cap', h1, h2⟩
  · subst h1 h2
    refine ⟨ta.trans (Turns.grown (F := fun i => i = g) h3 (fun b hb => (Option.some.inj hb).symm)) (fun i hi q => ?_), fun b hb => hgb b hb⟩
    subst q
    rcases hgb i rfl with q | q
    · exact q
    · omega
  · subst h1
    refine ⟨ta.trans (Turns.grown (F := fun _ => False) h2 (fun b hb => by cases hb)) (fun _ _ q => q.elim), fun b hb => Or.inr ?_⟩
    cases hb
    show w.heap.size ≤ _
    simp; omega
theorem Laid.turns9 {w w' : World} {v v' : Value} {n k : Nat} (l : Laid w w' v v' n k) : Turns (fun i => v.ownBlock = some i) w w' ∧ ∀ b, v'.ownBlock = some b → v.ownBlock = some b ∨ w.heap.size ≤ b := by
  rcases l with ⟨g, cap, h1, h2, h3⟩ | ⟨cap', h1, h2⟩
  · subst h1 h2
    exact ⟨Turns.grown h3 (fun b hb => hb), fun b hb => Or.inl hb⟩
  · subst h1
    exact ⟨Turns.grown h2 (fun b hb => by cases hb), fun b hb => Or.inr (by cases hb; exact Nat.le_refl _)⟩
/-- The lists that were handed out (each with how long it is), in the box bb; D: all their blocks. -/
structure Mk (w : World) (bb : Nat) (kv : Value) (es : List (Value × Nat)) (D : Nat → Prop) : Prop where
  box : w.heap[bb]? = some (.cells #[kv] 34 (0, 0))
  row : w.ownsRow 0 27 1 kv es.length (es.map (·.1))
  db : D bb
  dr : ∀ b, kv.ownBlock = some b → D b
  ent : ∀ (i : Nat) e, es[i]? = some e → w.ownsRow 0 38 13 e.1 e.2 (mrk e.2 (mrkI (-1 - (i / 2 : Nat)))) ∧ (∀ b, e.1.ownBlock = some b → D b) ∧ e.2 ≤ 4000
  lt : ∀ b, D b → b < w.heap.size
  ln : es.length ≤ 1000
theorem Mk.turns {X D : Nat → Prop} {w w' : World} {bb : Nat} {kv : Value} {es : List (Value × Nat)} (h : Mk w bb kv es D) (t : Turns X w w') (hX : ∀ b, D b → ¬ X b) : Mk w' bb kv es D :=
  ⟨(t.block bb (heap_lt h.box) (hX _ h.db)).trans h.box, own_turns h.row t (fun b hb => hX b (h.dr b hb)), h.db, h.dr,
   fun i e he => ⟨own_turns (h.ent i e he).1 t (fun b hb => hX b ((h.ent i e he).2.1 b hb)), (h.ent i e he).2⟩, fun b hb => Nat.lt_of_lt_of_le (h.lt b hb) t.size, h.ln⟩
theorem Mk.below {D : Nat → Prop} {w w' : World} {bb : Nat} {kv : Value} {es : List (Value × Nat)} (h : Mk w bb kv es D) (b : Below w.heap.size w w') : Mk w' bb kv es D := h.turns (Below.turns b (fun _ => False)) (fun _ _ q => q)
theorem rep_setI (x : Ino) (i : Nat) (l : List Ino) (h : i < l.length) : (List.replicate i x ++ l.drop i).set i x = List.replicate (i + 1) x ++ l.drop (i + 1) := by
  rw [List.set_append_right _ _ (by simp), List.length_replicate, Nat.sub_self, List.drop_eq_getElem_cons h, List.set_cons_zero, List.replicate_succ', List.append_assoc]
  rfl
/-- What keep leaves. -/
def KepR (w w' : World) (bb : Nat) (es : List (Value × Nat)) (D : Nat → Prop) (v : Value) (n : Nat) : Prop :=
  ∃ kv' g D', Mk w' bb kv' (es ++ [(v, n), (g, n + 70)]) D' ∧ Turns (fun b => D b ∨ v.ownBlock = some b) w w' ∧ ∀ b, D' b → D b ∨ v.ownBlock = some b ∨ w.heap.size ≤ b
/-- The two lists of one keep stand in the book. -/
theorem mk_kept {w W6 W7 : World} {bb : Nat} {kv L' v g : Value} {es : List (Value × Nat)} {D : Nat → Prop} {q n : Nat} (h : Mk w bb kv es D) (hq : es.length = 2 * q) (hes : es.length + 2 ≤ 1000) (hn : n ≤ 256) (hvD : ∀ b, v.ownBlock = some b → ¬ D b)
    (t3 : Turns (fun j => v.ownBlock = some j) w W6) (p1 : W6.ownsRow 0 38 13 v n (mrk n (mrkI (-1 - (q : Nat))))) (p2 : W6.ownsRow 0 38 13 g (n + 70) (mrk (n + 70) (mrkI (-1 - (q : Nat))))) (g2 : ∀ b, g.ownBlock = some b → v.ownBlock = some b ∨ w.heap.size ≤ b)
    (T7 : Turns (fun j => kv.ownBlock = some j) W6 W7) (o7 : W7.ownsRow 0 27 1 L' (es.length + 2) (es.map (·.1) ++ [v, g])) (n7 : ∀ b, L'.ownBlock = some b → kv.ownBlock = some b ∨ W6.heap.size ≤ b) :
    KepR w (W7.setCell ⟨bb, 0, none⟩ L') bb es D v n := by
  have hz3 := t3.size
  have hz7 := T7.size
  have h6 := h.turns t3 (fun b hb e => hvD b e hb)
  have hbk : kv.ownBlock ≠ some bb := own_typeJ h.row h.box (by decide)
  have t8 : Turns (fun j => j = bb) W7 (W7.setCell ⟨bb, 0, none⟩ L') := Turns.setCell W7 0 L' rfl
  have hz8 := t8.size
  have bx7 : W7.heap[bb]? = some (.cells #[kv] 34 (0, 0)) := (T7.block bb (heap_lt h6.box) hbk).trans h6.box
  have bx8 : (W7.setCell ⟨bb, 0, none⟩ L').heap[bb]? = some (.cells #[L'] 34 (0, 0)) := heap_setCell_same _ _ _ _ _ _ bx7
  have hne : ∀ {e s k : Nat} {u : Value} {xs : List Value}, W7.ownsRow 0 e s u k xs → e ≠ 34 → ∀ b, u.ownBlock = some b → ¬ b = bb := fun o he b hb e => own_typeJ o bx7 (Ne.symm he) (e ▸ hb)
  have k1 : ∀ {u : Value} {k : Nat} {xs : List Value}, W6.ownsRow 0 38 13 u k xs → (W7.setCell ⟨bb, 0, none⟩ L').ownsRow 0 38 13 u k xs := fun o => by
    have o' := own_turns o T7 (fun b hb e => own_apart o h6.row (by decide) hb e)
    exact own_turns o' t8 (hne o' (by decide))
  refine ⟨L', g, fun b => (D b ∨ v.ownBlock = some b ∨ w.heap.size ≤ b) ∧ b < (W7.setCell ⟨bb, 0, none⟩ L').heap.size, ⟨bx8, ?_, ⟨Or.inl h.db, heap_lt bx8⟩, fun b hb => ⟨?_, ?_⟩, ?_, fun b hb => hb.2, by simp; omega⟩, ?_, fun b hb => hb.1⟩
  · have o8 := own_turns o7 t8 (hne o7 (by decide))
    simpa using o8
  · rcases n7 b hb with r | r
    · exact Or.inl (h.dr b r)
    · exact Or.inr (Or.inr (by omega))
  · have := own_lt9 o7 hb
    omega
  · intro i e he
    by_cases hi : i < es.length
    · rw [List.getElem?_append_left hi] at he
      obtain ⟨a1, a2, a3⟩ := h6.ent i e he
      exact ⟨k1 a1, fun b hb => ⟨Or.inl (a2 b hb), by have := own_lt9 a1 hb; omega⟩, a3⟩
    · rw [List.getElem?_append_right (by omega)] at he
      obtain hi2 | hi2 | hi2 : i = es.length ∨ i = es.length + 1 ∨ es.length + 2 ≤ i := by omega
      · rw [hi2, Nat.sub_self] at he
        simp at he
        subst he
        have hd : i / 2 = q := by omega
        rw [hd]
        exact ⟨k1 p1, fun b hb => ⟨Or.inr (Or.inl hb), by have := own_lt9 p1 hb; omega⟩, by show n ≤ 4000; omega⟩
      · rw [hi2, Nat.add_sub_cancel_left] at he
        simp at he
        subst he
        have hd : i / 2 = q := by omega
        rw [hd]
        refine ⟨k1 p2, fun b hb => ⟨Or.inr (g2 b hb), by have := own_lt9 p2 hb; omega⟩, by show n + 70 ≤ 4000; omega⟩
      · have : [(v, n), (g, n + 70)][i - es.length]? = none := List.getElem?_eq_none (by simp; omega)
        rw [this] at he
        cases he
  · refine ((t3.mono (fun _ _ r => Or.inr r)).trans T7 (fun b _ r => Or.inl (h.dr b r))).trans t8 (fun b _ r => ?_)
    rw [r]
    exact Or.inl h.db
end Go.Proofs.YtlcjkbhcbiggcaaGreatDoor
