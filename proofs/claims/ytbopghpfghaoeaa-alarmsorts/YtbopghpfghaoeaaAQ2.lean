/- All that AlarmPlays holds: two alarms, the document's two, the book; a list of steps that came in. -/
import Derived.Test.YtbopghpfghaoeaaAQ1
import Derived.Test.YtbopghpfghaoeaaB2
import Derived.Test.YtbopghpfghaoeaaB3
namespace Go.Proofs.Ytbopghpfghaoeaa
open Go.RowKit Go.Maps
set_option maxRecDepth 100000

theorem AlI.turns2 {F : Nat → Prop} {w w' : World} {lab lab' : Nat → Nat} {k ab : Nat} {S : List (Int × Int)} (h : AlI w lab k ab S) (t : Turns F w w') (hF : ∀ i, i < w.heap.size → lab i = k → ¬ F i) (hl : ∀ i, i < w.heap.size → lab i = k → lab' i = lab i) : AlI w' lab' k ab S := by
  obtain ⟨bm, rv, g, l, ⟨D, f, h1, h2⟩, h3⟩ := h
  have h0 := h1.turns t hF (lab' := lab) (fun _ _ => rfl)
  exact ⟨bm, rv, g, l, ⟨D, f, { h0 with lh := (hl _ (heap_lt h1.box) h1.lh).trans h1.lh, lm := (hl _ h1.map.lt h1.lm).trans h1.lm, lr := fun b e => (hl b (own_lt h1.row e) (h1.lr b e)).trans (h1.lr b e) }, h2⟩, h3⟩
theorem ReI.turns2 {F : Nat → Prop} {w w' : World} {lab lab' : Nat → Nat} {k rb : Nat} {S : List (Int × Int)} (h : ReI w lab k rb S) (t : Turns F w w') (hF : ∀ i, i < w.heap.size → lab i = k → ¬ F i) (hl : ∀ i, i < w.heap.size → lab i = k → lab' i = lab i) : ReI w' lab' k rb S := by
  obtain ⟨rv, l, h1, h2⟩ := h
  have h0 := h1.turns t hF (lab' := lab) (fun _ _ => rfl)
  exact ⟨rv, l, { h0 with lb := (hl _ (heap_lt h1.box) h1.lb).trans h1.lb, lr := fun b e => (hl b (own_lt h1.row e) (h1.lr b e)).trans (h1.lr b e) }, h2⟩
theorem Pi.turns2 {F : Nat → Prop} {w w' : World} {lab lab' : Nat → Nat} {k q a d : Nat} {Sa Sd : List (Int × Int)} (h : Pi w lab k q a d Sa Sd) (t : Turns F w w') (hF : ∀ i, i < w.heap.size → (lab i = k ∨ lab i = q) → ¬ F i) (hl : ∀ i, i < w.heap.size → (lab i = k ∨ lab i = q) → lab' i = lab i) : Pi w' lab' k q a d Sa Sd :=
  ⟨h.A.turns2 t (fun i hi e => hF i hi (Or.inl e)) (fun i hi e => hl i hi (Or.inl e)), h.D.turns2 t (fun i hi e => hF i hi (Or.inr e)) (fun i hi e => hl i hi (Or.inr e)), h.ne⟩
theorem Bk.to2 {F : Nat → Prop} {w0 w w' : World} {lab lab' : Nat → Nat} (h : Bk w0 lab w) (t : Turns F w w') (hF : ∀ i, F i → lab i ≠ 0) (hl : ∀ i, i < w.heap.size → lab i = 0 → lab' i = lab i) : Bk w0 lab' w' :=
  ⟨h.b.trans ((t.mono (G := fun i => F i ∧ w0.heap.size ≤ i) (fun i _ q => ⟨q, by
    rcases Nat.lt_or_ge i w0.heap.size with r | r
    · exact absurd (h.z i r) (hF i q)
    · exact r⟩)).below (fun _ q => q.2) h.b.size), fun i hi => by rw [hl i (Nat.lt_of_lt_of_le hi h.b.size) (h.z i hi)]; exact h.z i hi⟩
/-- All that lies there. -/
structure Ev (w0 w : World) (lab : Nat → Nat) (a b d e kb : Nat) (Sa Sb : List (Int × Int)) (es : List Ke) : Prop where
  bk : Bk w0 lab w
  A : Pi w lab 1 6 a d Sa Sa
  B : Pi w lab 2 7 b e Sb Sb
  K : Bw w lab kb es
/-- Behind a step: the list v, if there is one, is labelled 4. -/
def EvS (w0 w' : World) (a b d e kb i : Nat) (es : List Ke) (v : Value) : Prop := ∃ lab n xs Sa Sb, Ev w0 w' lab a b d e kb Sa Sb es ∧ Sa.length ≤ i ∧ Sb.length ≤ i ∧ w'.ownsRow 0 3 1 v n xs ∧ n ≤ i ∧ ∀ c, v.ownBlock = some c → lab c = 4
theorem Ev.stepA {w0 w : World} {lab : Nat → Nat} {a b d e kb i : Nat} {Sa Sb : List (Int × Int)} {es : List Ke} (h : Ev w0 w lab a b d e kb Sa Sb es) (ha : Sa.length ≤ i) (hb : Sb.length ≤ i) (hi : i ≤ 1048576) (kd : Int) (sc : Bool) (x t : Int) (hx : -9223372036854775808 ≤ x ∧ x ≤ 9223372036854775807) :
    Calls Try.prog 34 #[.agg #[.int .i64 kd, .bool sc, .int .i64 x, .int .i64 t], .pointer (some ⟨a, 0, none⟩), .pointer (some ⟨d, 0, none⟩)] w fun r w' => ∃ v, r = .returned (.tuple #[v, .bool true]) ∧ EvS w0 w' a b d e kb (i + 1) es v := by
  refine (step_any h.A (by decide) (by decide) (by decide) kd sc x t hx (by omega)).mono ?_
  rintro r w' ⟨v, rfl, n, xs, S', lab', o, hn, hv, T, hS, g⟩
  exact ⟨v, rfl, lab', n, xs, S', Sb, ⟨h.bk.to2 g.t (fun j q => by rcases q with q | q <;> omega) (fun j hj _ => g.l j hj), T, h.B.turns2 g.t (fun j hj q r => by rcases q with q | q <;> rcases r with r | r <;> omega) (fun j hj _ => g.l j hj), h.K.turns g.t (fun j hj q r => by rcases q with q | q <;> rcases r with r | r <;> omega) (fun j hj _ => g.l j hj)⟩, by omega, by omega, o, by omega, hv⟩
theorem Ev.stepB {w0 w : World} {lab : Nat → Nat} {a b d e kb i : Nat} {Sa Sb : List (Int × Int)} {es : List Ke} (h : Ev w0 w lab a b d e kb Sa Sb es) (ha : Sa.length ≤ i) (hb : Sb.length ≤ i) (hi : i ≤ 1048576) (kd : Int) (sc : Bool) (x t : Int) (hx : -9223372036854775808 ≤ x ∧ x ≤ 9223372036854775807) :
    Calls Try.prog 34 #[.agg #[.int .i64 kd, .bool sc, .int .i64 x, .int .i64 t], .pointer (some ⟨b, 0, none⟩), .pointer (some ⟨e, 0, none⟩)] w fun r w' => ∃ v, r = .returned (.tuple #[v, .bool true]) ∧ EvS w0 w' a b d e kb (i + 1) es v := by
  refine (step_any h.B (by decide) (by decide) (by decide) kd sc x t hx (by omega)).mono ?_
  rintro r w' ⟨v, rfl, n, xs, S', lab', o, hn, hv, T, hS, g⟩
  exact ⟨v, rfl, lab', n, xs, Sa, S', ⟨h.bk.to2 g.t (fun j q => by rcases q with q | q <;> omega) (fun j hj _ => g.l j hj), h.A.turns2 g.t (fun j hj q r => by rcases q with q | q <;> rcases r with r | r <;> omega) (fun j hj _ => g.l j hj), T, h.K.turns g.t (fun j hj q r => by rcases q with q | q <;> rcases r with r | r <;> omega) (fun j hj _ => g.l j hj)⟩, by omega, by omega, o, by omega, hv⟩
/-- Between two steps: the book holds three lists a Due. -/
def EvN (w0 w : World) (a b d e kb i : Nat) : Prop := ∃ lab Sa Sb es q, Ev w0 w lab a b d e kb Sa Sb es ∧ Sa.length ≤ i ∧ Sb.length ≤ i ∧ es.length = 3 * q ∧ q ≤ i
theorem EvS.next {w0 w : World} {a b d e kb i q : Nat} {es : List Ke} {v : Value} (h : EvS w0 w a b d e kb i es v) (hq : es.length = 3 * q) (hqi : q ≤ i) : EvN w0 w a b d e kb i := by
  obtain ⟨lab, n, xs, Sa, Sb, T, h1, h2, _⟩ := h
  exact ⟨lab, Sa, Sb, es, q, T, h1, h2, hq, hqi⟩
theorem EvS.keep {w0 w : World} {a b d e kb i q : Nat} {es : List Ke} {v : Value} (h : EvS w0 w a b d e kb i es v) (hq : es.length = 3 * q) (hqi : q + 1 ≤ i) (hi : i ≤ 1048577) :
    Calls Try.prog 35 #[.pointer (some ⟨kb, 0, none⟩), v] w fun r w' => r = .returned (.tuple #[]) ∧ EvN w0 w' a b d e kb i := by
  obtain ⟨lab, n, xs, Sa, Sb, T, h1, h2, o, hn, hv⟩ := h
  refine (keep_any T.K q hq v n xs o hv (by omega) (by omega)).mono ?_
  rintro r w' ⟨rfl, g1, g2, lab', K, t, hl⟩
  exact ⟨rfl, lab', Sa, Sb, _, q + 1, ⟨T.bk.to2 t (fun j q => by rcases q with q | q <;> omega) (fun j hj q => hl j hj (by omega)), T.A.turns2 t (fun j hj q r => by rcases q with q | q <;> rcases r with r | r <;> omega) (fun j hj q => hl j hj (by rcases q with q | q <;> omega)), T.B.turns2 t (fun j hj q r => by rcases q with q | q <;> rcases r with r | r <;> omega) (fun j hj q => hl j hj (by rcases q with q | q <;> omega)), K⟩, h1, h2, by simp; omega, hqi⟩
theorem EvN.whole {w0 w : World} {a b d e kb i : Nat} (h : EvN w0 w a b d e kb i) :
    Calls Try.prog 36 #[.pointer (some ⟨kb, 0, none⟩)] w fun r w' => r = .returned (.bool true) ∧ EvN w0 w' a b d e kb i := by
  obtain ⟨lab, Sa, Sb, es, q, T, h1, h2, h3, h4⟩ := h
  refine (whole_any T.K).mono ?_
  rintro r w' ⟨rfl, m, rfl⟩
  exact ⟨rfl, lab, Sa, Sb, es, q, ⟨T.bk.drew m, T.A.drew m, T.B.drew m, T.K.turns (Turns.drewN (fun _ => False) w m) (fun _ _ _ q => q) (fun _ _ _ => rfl)⟩, h1, h2, h3, h4⟩
theorem EvN.bel {w0 w : World} {a b d e kb i : Nat} (h : EvN w0 w a b d e kb i) : Below w0.heap.size w0 w := by
  obtain ⟨lab, Sa, Sb, es, q, T, _⟩ := h
  exact T.bk.b
theorem EvS.bel {w0 w : World} {a b d e kb i : Nat} {es : List Ke} {v : Value} (h : EvS w0 w a b d e kb i es v) : Below w0.heap.size w0 w := by
  obtain ⟨lab, n, xs, Sa, Sb, T, _⟩ := h
  exact T.bk.b
/-- A step that came in. -/
structure Oi where
  k : Int
  s : Bool
  x : Int
  t : Int
structure OLies (w : World) (ao : Option Addr) (n : Nat) (es : List Oi) : Prop where
  hlen : es.length = n
  hcells : ∀ (j : Nat) e, es[j]? = some e → (-9223372036854775808 ≤ e.x ∧ e.x ≤ 9223372036854775807) ∧ ∃ g p, ao = some ⟨g, p, none⟩ ∧ w.cell? ⟨g, p + j * 4, none⟩ = some (.int .i64 e.k) ∧ w.cell? ⟨g, p + j * 4 + 1, none⟩ = some (.bool e.s) ∧ w.cell? ⟨g, p + j * 4 + 2, none⟩ = some (.int .i64 e.x) ∧ w.cell? ⟨g, p + j * 4 + 3, none⟩ = some (.int .i64 e.t)
theorem OLies.at {w : World} {ao : Option Addr} {n : Nat} {es : List Oi} (h : OLies w ao n es) (j : Nat) (hj : j < n) : ∃ g p k s x t, ao = some ⟨g, p, none⟩ ∧ (-9223372036854775808 ≤ x ∧ x ≤ 9223372036854775807) ∧ w.cell? ⟨g, p + j * 4, none⟩ = some (.int .i64 k) ∧ w.cell? ⟨g, p + j * 4 + 1, none⟩ = some (.bool s) ∧ w.cell? ⟨g, p + j * 4 + 2, none⟩ = some (.int .i64 x) ∧ w.cell? ⟨g, p + j * 4 + 3, none⟩ = some (.int .i64 t) := by
  have hl : j < es.length := by rw [h.hlen]; exact hj
  obtain ⟨h1, g, p, h2, h3, h4, h5, h6⟩ := h.hcells j es[j] (List.getElem?_eq_getElem hl)
  exact ⟨g, p, _, _, _, _, h2, h1, h3, h4, h5, h6⟩
end Go.Proofs.Ytbopghpfghaoeaa
