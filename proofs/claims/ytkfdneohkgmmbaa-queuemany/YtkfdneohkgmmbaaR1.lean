/- Pop, whatever waits; a queue that anything is done with. -/
import Derived.Test.YtkfdneohkgmmbaaR0
namespace Go.Proofs.Ytkfdneohkgmmbaa
open Go.RowKit
set_option maxRecDepth 100000

theorem least {p : Nat → Prop} : ∀ n, (∃ i, i < n ∧ p i) → ∃ i, i < n ∧ p i ∧ ∀ j, j < i → ¬ p j
  | 0, ⟨i, h, _⟩ => absurd h (Nat.not_lt_zero i)
  | n + 1, ⟨i, h, hp⟩ => by
    by_cases q : ∃ i, i < n ∧ p i
    · obtain ⟨i, h1, h2, h3⟩ := least n q
      exact ⟨i, by omega, h2, h3⟩
    · have : i = n := by
        rcases Nat.lt_or_ge i n with r | r
        · exact absurd ⟨i, r, hp⟩ q
        · omega
      subst this
      exact ⟨i, h, hp, fun j hj hq => q ⟨j, hj, hq⟩⟩
theorem first_some {E : Type} (nx : Nat) (L : List (List E)) (hx : nx < L.length) (h : ∃ j, j < L.length ∧ L.getD j [] ≠ []) :
    ∃ (i c : Nat) (x : E) (l : List E) (hc : c < L.length), i < L.length ∧ (nx + i) % L.length = c ∧ (∀ j, j < i → L.getD ((nx + j) % L.length) [] = []) ∧ L[c] = x :: l := by
  obtain ⟨j, hj, hne⟩ := h
  obtain ⟨i, h1, h2, h3⟩ := least (p := fun i => L.getD ((nx + i) % L.length) [] ≠ []) L.length ⟨(j + L.length - nx) % L.length, Nat.mod_lt _ (by omega), by
    have e : (nx + (j + L.length - nx) % L.length) % L.length = j := by
      rw [Nat.add_mod_mod, show nx + (j + L.length - nx) = j + L.length by omega, Nat.add_mod_right, Nat.mod_eq_of_lt hj]
    rw [e]; exact hne⟩
  have hc : (nx + i) % L.length < L.length := Nat.mod_lt _ (by omega)
  rw [List.getD_eq_getElem?_getD, List.getElem?_eq_getElem hc, Option.getD_some] at h2
  obtain ⟨x, l, e⟩ := List.exists_cons_of_ne_nil h2
  exact ⟨i, (nx + i) % L.length, x, l, hc, h1, rfl, fun j hj => Decidable.not_not.1 (h3 j hj), e⟩
theorem getD_at' {E : Type} (L : List (List E)) (c : Nat) (h : c < L.length) : L.getD c [] = L[c] := by simp [List.getD, h]
theorem tot_zero {L : List (List Int)} (h : tot L = 0) : ∀ j, j < L.length → L.getD j [] = [] := by
  intro j hj
  have := tot_set L j [] hj
  rw [List.length_nil] at this
  have hz : L[j].length = 0 := by omega
  rw [List.getD_eq_getElem?_getD, List.getElem?_eq_getElem hj, Option.getD_some]
  exact List.eq_nil_of_length_eq_zero hz
theorem tot_pos {L : List (List Int)} (h : 0 < tot L) : ∃ j, j < L.length ∧ L.getD j [] ≠ [] := by
  induction L with
  | nil => simp [tot] at h
  | cons x L ih =>
    rw [tot_cons] at h
    by_cases hx : x = []
    · subst hx
      obtain ⟨j, h1, h2⟩ := ih (by simpa using h)
      exact ⟨j + 1, by simpa using h1, by simpa using h2⟩
    · exact ⟨0, by simp, by simpa using hx⟩
/-- Pop where something waits. -/
theorem pop_some {w : World} {lab : Nat → Nat} {k qb P nx : Nat} {L : List (List Int)} (hq : Qu KI w lab k qb P nx L) (h : 0 < tot L) :
    ∃ (i c : Nat) (x : Int) (l : List Int) (hc : c < L.length), i < L.length ∧ (nx + i) % L.length = c ∧ (∀ j, j < i → L.getD ((nx + j) % L.length) [] = []) ∧ L[c] = x :: l ∧ tot (L.set c l) + 1 = tot L ∧
    Calls Try.prog 11 #[.pointer (some ⟨qb, 0, none⟩)] w fun e w' => e = .returned (.tuple #[.int .i64 c, .int .i64 x, .bool true]) ∧ Qu KI w' (rl lab w k) k qb P ((c + 1) % L.length) (L.set c l) ∧ Turns (fun i => lab i = k) w w' := by
  obtain ⟨i, c, x, l, hc, h1, h2, h3, h4⟩ := first_some nx L hq.hx (tot_pos h)
  have := tot_set L c l hc
  rw [h4, List.length_cons] at this
  exact ⟨i, c, x, l, hc, h1, h2, h3, h4, by omega, pop_okI hq i c h1 hc h2 h3 x l h4⟩
/-- A queue of n clients, whatever was done with it. -/
structure St (w0 w : World) (qb P n : Nat) : Prop where
  q : ∃ lab nx L, Qu KI w lab 1 qb P nx L ∧ L.length = n ∧ Bk w0 lab w
def IntV (v : Value) : Prop := ∃ x : Int, v = .int .i64 x
theorem St.push {w0 w : World} {qb P n : Nat} (h : St w0 w qb P n) (c : Nat) (hc : c < n) (v : Int) :
    Calls Try.prog 12 #[.pointer (some ⟨qb, 0, none⟩), .int .i64 c, .int .i64 v] w fun e w' => ∃ x, e = .returned x ∧ IntV x ∧ St w0 w' qb P n := by
  obtain ⟨lab, nx, L, q, hl, B⟩ := h.q
  have hcl : c < L.length := by omega
  by_cases hf : L[c].length = P
  · refine (pushFI q c v hcl hf).mono ?_
    rintro e w' ⟨rfl, m, rfl⟩
    exact ⟨_, rfl, ⟨_, rfl⟩, ⟨lab, nx, L, q.drew m, hl, B.drew m⟩⟩
  · have := q.le c hcl
    refine (pushI q c v hcl (by omega)).mono ?_
    rintro e w' ⟨rfl, q', t'⟩
    exact ⟨_, rfl, ⟨_, rfl⟩, ⟨_, nx, _, q', by simpa using hl, B.step t' (by decide)⟩⟩
theorem St.pop {w0 w : World} {qb P n : Nat} (h : St w0 w qb P n) :
    Calls Try.prog 11 #[.pointer (some ⟨qb, 0, none⟩)] w fun e w' => ∃ a b c, e = .returned (.tuple #[a, b, c]) ∧ St w0 w' qb P n := by
  obtain ⟨lab, nx, L, q, hl, B⟩ := h.q
  by_cases ht : tot L = 0
  · refine (pop_noI q (tot_zero ht)).mono ?_
    rintro e w' ⟨rfl, rfl⟩
    exact ⟨_, _, _, rfl, ⟨lab, nx, L, q, hl, B⟩⟩
  · obtain ⟨i, c, x, l, hc, h1, h2, h3, h4, h5, hp⟩ := pop_some q (by omega)
    refine hp.mono ?_
    rintro e w' ⟨rfl, q', t'⟩
    exact ⟨_, _, _, rfl, ⟨_, _, _, q', by simpa using hl, B.step t' (by decide)⟩⟩
theorem own_other {w w' : World} {lab : Nat → Nat} {k base e s n : Nat} {v : Value} {xs : List Value} (h : w.ownsRow base e s v n xs) (t : Turns (fun i => lab i = k) w w') (hv : ∀ b, v.ownBlock = some b → lab b ≠ k) : w'.ownsRow base e s v n xs := own_turns h t (fun b hb q => hv b hb q)
theorem own_later {w w' : World} {base e s n : Nat} {v : Value} {xs : List Value} (h : w.ownsRow base e s v n xs) (b : Below w.heap.size w w') : w'.ownsRow base e s v n xs := own_turns h (Below.turns b (fun _ => False)) (fun _ _ q => q)
end Go.Proofs.Ytkfdneohkgmmbaa
