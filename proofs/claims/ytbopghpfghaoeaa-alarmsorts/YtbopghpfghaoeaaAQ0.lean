/- An alarm of ints and the document's beside one another. -/
import Derived.Test.YtbopghpfghaoeaaAH
import Derived.Test.YtbopghpfghaoeaaD6i
namespace Go.Proofs.Ytbopghpfghaoeaa
open Go.RowKit Go.Maps
set_option maxRecDepth 100000
attribute [local go_sem ↓] Go.wp_at_zero Go.wp_at_succ

/-- An alarm labelled k, and the document's labelled q. -/
structure Pi (w : World) (lab : Nat → Nat) (k q a d : Nat) (Sa Sd : List (Int × Int)) : Prop where
  A : AlI w lab k a Sa
  D : ReI w lab q d Sd
  ne : k ≠ q
theorem Pi.a {w w' : World} {lab lab' : Nat → Nat} {k q a d : Nat} {Sa Sd S : List (Int × Int)} (h : Pi w lab k q a d Sa Sd) (t : Turns (fun i => lab i = k) w w') (hl : ∀ i, i < w.heap.size → lab' i = lab i) (hA : AlI w' lab' k a S) : Pi w' lab' k q a d S Sd :=
  ⟨hA, h.D.turns t (fun _ _ e r => h.ne (r.symm.trans e)) hl, h.ne⟩
theorem Pi.d {w w' : World} {lab lab' : Nat → Nat} {k q a d : Nat} {Sa Sd S : List (Int × Int)} (h : Pi w lab k q a d Sa Sd) (t : Turns (fun i => lab i = q) w w') (hl : ∀ i, i < w.heap.size → lab' i = lab i) (hD : ReI w' lab' q d S) : Pi w' lab' k q a d Sa S :=
  ⟨h.A.turns t (fun _ _ e r => h.ne (e.symm.trans r)) hl, hD, h.ne⟩
theorem Pi.below {w w' : World} {lab : Nat → Nat} {k q a d : Nat} {Sa Sd : List (Int × Int)} (h : Pi w lab k q a d Sa Sd) (r : Below w.heap.size w w') (j : Nat) : Pi w' (rl lab w j) k q a d Sa Sd := ⟨h.A.below r j, h.D.below r j, h.ne⟩
theorem Pi.drew {w : World} {lab : Nat → Nat} {k q a d : Nat} {Sa Sd : List (Int × Int)} (h : Pi w lab k q a d Sa Sd) (m : Nat) : Pi (w.drewN m) lab k q a d Sa Sd := ⟨h.A.drew m, h.D.drew m, h.ne⟩
/-- From one state of both to a later one. -/
structure Pg (w w' : World) (lab lab' : Nat → Nat) (k q : Nat) : Prop where
  l : ∀ i, i < w.heap.size → lab' i = lab i
  t : Turns (fun i => lab i = k ∨ lab i = q) w w'
theorem Pg.trans {w w1 w2 : World} {lab l1 l2 : Nat → Nat} {k q : Nat} (h : Pg w w1 lab l1 k q) (g : Pg w1 w2 l1 l2 k q) : Pg w w2 lab l2 k q :=
  ⟨fun i hi => (g.l i (Nat.lt_of_lt_of_le hi h.t.size)).trans (h.l i hi), h.t.trans g.t (fun i hi e => by rw [h.l i hi] at e; exact e)⟩
theorem Pg.below {w w' : World} (lab : Nat → Nat) (k q j : Nat) (b : Below w.heap.size w w') : Pg w w' lab (rl lab w j) k q := ⟨fun _ hi => rl_old hi, Below.turns b _⟩
theorem Pg.drew (w : World) (lab : Nat → Nat) (k q m : Nat) : Pg w (w.drewN m) lab lab k q := ⟨fun _ _ => rfl, Turns.drewN _ _ _⟩
/-- What a call leaves of both. -/
def PiR (w w' : World) (lab : Nat → Nat) (k q a d : Nat) (Sa Sd : List (Int × Int)) : Prop := ∃ lab', Pi w' lab' k q a d Sa Sd ∧ Pg w w' lab lab' k q
theorem Pi.setA {w : World} {lab : Nat → Nat} {k q a d : Nat} {Sa Sd : List (Int × Int)} (h : Pi w lab k q a d Sa Sd) (x t : Int) (hx : -9223372036854775808 ≤ x ∧ x ≤ 9223372036854775807) (hl : Sa.length < 4398046511104) :
    Calls Try.prog 9 #[.pointer (some ⟨a, 0, none⟩), .int .i64 x, .int .i64 t] w fun e w' => e = .returned (.tuple #[]) ∧ PiR w w' lab k q a d (setS OI Sa x t) Sd := by
  refine (setA_I h.A x t (okI hx) hl).mono ?_
  rintro e w' ⟨rfl, r, t⟩
  exact ⟨rfl, _, h.a t (fun _ hi => rl_old hi) r, fun _ hi => rl_old hi, t.mono (fun _ _ e => Or.inl e)⟩
theorem Pi.setD {w : World} {lab : Nat → Nat} {k q a d : Nat} {Sa Sd : List (Int × Int)} (h : Pi w lab k q a d Sa Sd) (x t : Int) (hl : Sd.length < 4398046511104) :
    Calls Try.prog 21 #[.pointer (some ⟨d, 0, none⟩), .agg #[.int .i64 x, .string ⟨#[]⟩], .int .i64 t] w fun e w' => e = .returned (.tuple #[]) ∧ PiR w w' lab k q a d Sa (setS OI Sd x t) := by
  refine (dset_I h.D x t hl).mono ?_
  rintro e w' ⟨rfl, r, t⟩
  exact ⟨rfl, _, h.d t (fun _ hi => rl_old hi) r, fun _ hi => rl_old hi, t.mono (fun _ _ e => Or.inr e)⟩
theorem Pi.cancelA {w : World} {lab : Nat → Nat} {k q a d : Nat} {Sa Sd : List (Int × Int)} (h : Pi w lab k q a d Sa Sd) (x : Int) (hx : -9223372036854775808 ≤ x ∧ x ≤ 9223372036854775807) :
    Calls Try.prog 11 #[.pointer (some ⟨a, 0, none⟩), .int .i64 x] w fun e w' => e = .returned (.bool (atS Sa x).isSome) ∧ PiR w w' lab k q a d (cutS Sa x) Sd := by
  refine (cancelA_I h.A x (okI hx)).mono ?_
  rintro e w' ⟨rfl, r, t⟩
  exact ⟨rfl, _, h.a t (fun _ hi => rl_old hi) r, fun _ hi => rl_old hi, t.mono (fun _ _ e => Or.inl e)⟩
theorem Pi.cancelD {w : World} {lab : Nat → Nat} {k q a d : Nat} {Sa Sd : List (Int × Int)} (h : Pi w lab k q a d Sa Sd) (x : Int) :
    Calls Try.prog 23 #[.pointer (some ⟨d, 0, none⟩), .agg #[.int .i64 x, .string ⟨#[]⟩]] w fun e w' => e = .returned (.bool (atS Sd x).isSome) ∧ PiR w w' lab k q a d Sa (cutS Sd x) := by
  refine (dcancel_I h.D x).mono ?_
  rintro e w' ⟨rfl, r, t⟩
  exact ⟨rfl, _, h.d t (fun _ hi => rl_old hi) r, fun _ hi => rl_old hi, t.mono (fun _ _ e => Or.inr e)⟩
/-- Behind the alarm's Due: the list is labelled 4; behind the document's; behind numbers. -/
def DI1 (w w' : World) (lab : Nat → Nat) (t : Int) (k q a d : Nat) (S : List (Int × Int)) (v : Value) : Prop := ∃ lab', w'.ownsRow 0 3 1 v (dueS S t).length (((dueS S t).map Prod.fst).map (Value.int .i64)) ∧ (∀ c, v.ownBlock = some c → lab' c = 4) ∧ Pi w' lab' k q a d (leftS S t) S ∧ Pg w w' lab lab' k q
def DI2 (w w' : World) (lab : Nat → Nat) (t : Int) (k q a d : Nat) (S : List (Int × Int)) (v u : Value) : Prop := ∃ lab', w'.ownsRow 0 3 1 v (dueS S t).length (((dueS S t).map Prod.fst).map (Value.int .i64)) ∧ (∀ c, v.ownBlock = some c → lab' c = 4) ∧ w'.ownsRow 0 51 2 u (dueS S t).length ((dueS S t).flatMap kcI) ∧ Pi w' lab' k q a d (leftS S t) (leftS S t) ∧ Pg w w' lab lab' k q
def DI3 (w w' : World) (lab : Nat → Nat) (t : Int) (k q a d : Nat) (S : List (Int × Int)) (v u : Value) : Prop := ∃ lab' b, w'.ownsRow 0 3 1 v (dueS S t).length (((dueS S t).map Prod.fst).map (Value.int .i64)) ∧ (∀ c, v.ownBlock = some c → lab' c = 4) ∧ w'.ownsRow b 3 1 u (dueS S t).length (((dueS S t).map Prod.fst).map (Value.int .i64)) ∧ Pi w' lab' k q a d (leftS S t) (leftS S t) ∧ Pg w w' lab lab' k q
def DI4 (w w' : World) (lab : Nat → Nat) (t : Int) (k q a d : Nat) (S : List (Int × Int)) (v : Value) : Prop := ∃ lab', w'.ownsRow 0 3 1 v (dueS S t).length (((dueS S t).map Prod.fst).map (Value.int .i64)) ∧ (∀ c, v.ownBlock = some c → lab' c = 4) ∧ Pi w' lab' k q a d (leftS S t) (leftS S t) ∧ Pg w w' lab lab' k q
theorem kvI_eq2 (S : List (Int × Int)) : kvI S = (S.map Prod.fst).map (Value.int .i64) := by simp [kvI]
theorem due_le2 (S : List (Int × Int)) (t : Int) : (dueS S t).length ≤ S.length := by have := due_len S t; omega
theorem di1 {w V : World} {lab lb : Nat → Nat} {k q a d : Nat} {t : Int} {S : List (Int × Int)} (T : Pi V lb k q a d S S) (g : Pg w V lab lb k q) :
    Calls Try.prog 10 #[.pointer (some ⟨a, 0, none⟩), .int .i64 t] V fun e w' => ∃ v, e = .returned v ∧ DI1 w w' lab t k q a d S v := by
  refine (dueA_I T.A t 4).mono ?_
  rintro e w' ⟨v, rfl, l', o, hv, r, hl, tt⟩
  rw [kvI_eq2] at o
  exact ⟨v, rfl, l', o, fun c hc => (hv c hc).2, T.a tt hl r, g.trans ⟨hl, tt.mono (fun _ _ e => Or.inl e)⟩⟩
theorem di2 {w V : World} {lab : Nat → Nat} {k q a d : Nat} {t : Int} {S : List (Int × Int)} {v : Value} (hq : q ≠ 4) (h : DI1 w V lab t k q a d S v) :
    Calls Try.prog 31 #[.pointer (some ⟨d, 0, none⟩), .int .i64 t] V fun e w' => ∃ u, e = .returned u ∧ DI2 w w' lab t k q a d S v u := by
  obtain ⟨lb, o, hv, T, g⟩ := h
  refine (ddue_I T.D t 9).mono ?_
  rintro e w' ⟨u, rfl, l', o2, _, r, hl, tt⟩
  exact ⟨u, rfl, l', own_turns o tt (fun c hc => by show ¬ lb c = q; rw [hv c hc]; exact fun e => hq e.symm), fun c hc => (hl c (own_lt o hc)).trans (hv c hc), o2, T.d tt hl r, g.trans ⟨hl, tt.mono (fun _ _ e => Or.inr e)⟩⟩
theorem di3 {w V : World} {lab : Nat → Nat} {k q a d : Nat} {t : Int} {S : List (Int × Int)} {v u : Value} (h : DI2 w V lab t k q a d S v u) (hS : S.length ≤ 4398046511104) :
    Calls Try.prog 55 #[u] V fun e w' => ∃ x, e = .returned x ∧ DI3 w w' lab t k q a d S v x := by
  obtain ⟨lb, o, hv, o2, T, g⟩ := h
  refine (numbers_any o2 (Nat.le_trans (due_le2 S t) hS)).mono ?_
  rintro e w' ⟨x, rfl, o3, b⟩
  exact ⟨x, rfl, _, _, own_turns o (Below.turns b (fun _ => False)) (fun _ _ q => q), fun c hc => (rl_old (own_lt o hc)).trans (hv c hc), o3, T.below b 9, g.trans (Pg.below _ _ _ _ b)⟩
theorem di4 {w V : World} {lab : Nat → Nat} {k q a d : Nat} {t : Int} {S : List (Int × Int)} {v u : Value} (h : DI3 w V lab t k q a d S v u) (hS : S.length ≤ 4398046511104) :
    Calls Try.prog 37 #[v, u] V fun e w' => e = .returned (.bool true) ∧ DI4 w w' lab t k q a d S v := by
  obtain ⟨lb, b, o, hv, o2, T, g⟩ := h
  obtain ⟨a1, c1, hv1, L1⟩ := Li.row o
  obtain ⟨a2, c2, hv2, L2⟩ := Li.row o2
  have hlen := due_le2 S t
  rw [hv1, hv2]
  refine (sameI_any a1 a2 _ _ c1 c2 _ _ V (by omega) L1 L2).mono ?_
  rintro e w' ⟨rfl, m, rfl⟩
  rw [← hv1]
  exact ⟨by simp, lb, o, hv, T.drew m, g.trans (Pg.drew _ _ _ _ _)⟩
end Go.Proofs.Ytbopghpfghaoeaa
