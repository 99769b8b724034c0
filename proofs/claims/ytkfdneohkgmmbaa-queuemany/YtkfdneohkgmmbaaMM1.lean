/- What QueueMany holds between two steps; items that came in. -/
import Derived.Test.YtkfdneohkgmmbaaP1
import Derived.Test.YtkfdneohkgmmbaaQO
import Derived.Test.YtkfdneohkgmmbaaM2
import Derived.Test.YtkfdneohkgmmbaaM3
namespace Go.Proofs.Ytkfdneohkgmmbaa
open Go.RowKit
set_option maxRecDepth 100000

theorem Try.infoPair : (Try.prog.info? 55).map (fun i => (i.zero, i.size, i.bytes)) = some (some (.agg #[.pointer none, .pointer none]), 2, 16) := by kernel_rfl
theorem Pr.turnsM {F : Nat → Prop} {w w' : World} {lab lab' : Nat → Nat} {jq jr qb rb P : Nat} {L : List (List Int)} (h : Pr w lab jq jr qb rb P L) (t : Turns F w w') (hF : ∀ i, i < w.heap.size → lab i = jq ∨ lab i = jr → ¬ F i) (hl : ∀ i, i < w.heap.size → lab' i = lab i) : Pr w' lab' jq jr qb rb P L := by
  obtain ⟨nx, la, q, r, e⟩ := h.q
  refine ⟨nx, la, q.turns t (fun i hi hq => hF i hi (Or.inl hq)) hl, ?_, e⟩
  obtain ⟨wb, vs, r⟩ := r
  exact ⟨wb, vs, r.turns t (fun i hi hq => hF i hi (Or.inr hq)) hl⟩
/-- Items that came in. -/
structure ILies (w : World) (ao : Option Addr) (n : Nat) (es : List (Int × Int × Int)) : Prop where
  hlen : es.length = n
  hcells : ∀ (j : Nat) e, es[j]? = some e → ∃ g p, ao = some ⟨g, p, none⟩ ∧ w.cell? ⟨g, p + j * 3, none⟩ = some (.int .i64 e.1) ∧ w.cell? ⟨g, p + j * 3 + 1, none⟩ = some (.int .i64 e.2.1) ∧ w.cell? ⟨g, p + j * 3 + 2, none⟩ = some (.int .i64 e.2.2)
theorem ILies.below {B : Nat} {w w' : World} {ao : Option Addr} {n : Nat} {es : List (Int × Int × Int)} (h : ILies w ao n es) (hb : Below B w w') (hB : w.heap.size ≤ B) : ILies w' ao n es :=
  ⟨h.hlen, fun j e he => by
    obtain ⟨g, p, h2, h3, h4, h5⟩ := h.hcells j e he
    have f : ∀ a v, w.cell? a = some v → w'.cell? a = some v := fun a v hv => (hb.cell (Nat.lt_of_lt_of_le (World.block_lt_of_cell? w _ hv) hB)).trans hv
    exact ⟨g, p, h2, f _ _ h3, f _ _ h4, f _ _ h5⟩⟩
def cpp (p : Nat × Nat) : List Value := [.pointer (some ⟨p.1, 0, none⟩), .pointer (some ⟨p.2, 0, none⟩)]
theorem cpp_at (W : List (Nat × Nat)) : ∀ (k : Nat) (h : k < W.length), (W.flatMap cpp)[k * 2]? = some (.pointer (some ⟨W[k].1, 0, none⟩)) ∧ (W.flatMap cpp)[k * 2 + 1]? = some (.pointer (some ⟨W[k].2, 0, none⟩)) := by
  induction W with
  | nil => intro k h; simp at h
  | cons x W ih =>
    intro k h
    cases k with
    | zero => exact ⟨rfl, rfl⟩
    | succ k =>
      have := ih k (by simpa using h)
      rw [List.flatMap_cons, show (k + 1) * 2 = k * 2 + 2 by omega, List.getElem?_append_right (by simp [cpp]), List.getElem?_append_right (by simp [cpp])]
      simpa [cpp, show k * 2 + 2 + 1 - 2 = k * 2 + 1 by omega] using this
/-- Pairs beside one another, each with labels of its own. -/
structure Mq (w0 w : World) (lab : Nat → Nat) (pv : Value) (ps : List (Nat × Nat)) (P n : Nat) : Prop where
  b : Bk w0 lab w
  r : w.ownsRow 0 55 2 pv ps.length (ps.flatMap cpp)
  r4 : ∀ b, pv.ownBlock = some b → lab b = 4
  p : ∀ (i : Nat) q, ps[i]? = some q → ∃ L, Pr w lab (10 + 2 * i) (11 + 2 * i) q.1 q.2 P L ∧ L.length = n
theorem Mq.turns {F : Nat → Prop} {w0 w w' : World} {lab lab' : Nat → Nat} {pv : Value} {ps : List (Nat × Nat)} {P n : Nat} (h : Mq w0 w lab pv ps P n) (t : Turns F w w') (hF : ∀ i, i < w.heap.size → lab i = 4 ∨ 10 ≤ lab i → ¬ F i) (hl : ∀ i, i < w.heap.size → lab' i = lab i) (hb : Bk w0 lab' w') : Mq w0 w' lab' pv ps P n :=
  ⟨hb, own_turns h.r t (fun b hb => hF b (own_lt h.r hb) (Or.inl (h.r4 b hb))), fun b hb => (hl b (own_lt h.r hb)).trans (h.r4 b hb), fun i x hi => by
    obtain ⟨L, q, e⟩ := h.p i x hi
    exact ⟨L, q.turnsM t (fun j hj hq => hF j hj (by omega)) hl, e⟩⟩
theorem Mq.below {w0 w w' : World} {lab : Nat → Nat} {pv : Value} {ps : List (Nat × Nat)} {P n : Nat} (h : Mq w0 w lab pv ps P n) (b : Below w.heap.size w w') (j : Nat) : Mq w0 w' (rl lab w j) pv ps P n :=
  h.turns (Below.turns b (fun _ => False)) (fun _ _ _ q => q) (fun _ hi => rl_old hi) (h.b.below b j)
theorem Mq.drew {w0 w : World} {lab : Nat → Nat} {pv : Value} {ps : List (Nat × Nat)} {P n : Nat} (h : Mq w0 w lab pv ps P n) (m : Nat) : Mq w0 (w.drewN m) lab pv ps P n :=
  h.turns (Turns.drewN (fun _ => False) w m) (fun _ _ _ q => q) (fun _ _ => rfl) (h.b.drew m)
/-- A step of one of them. -/
theorem Mq.step {w0 w w' : World} {lab lab' : Nat → Nat} {pv : Value} {ps : List (Nat × Nat)} {P n qb rb : Nat} (h : Mq w0 w lab pv ps P n) (k : Nat) (hk : ps[k]? = some (qb, rb)) (g : Wnt w w' lab lab' (10 + 2 * k) (11 + 2 * k) 3) {L' : List (List Int)} (p : Pr w' lab' (10 + 2 * k) (11 + 2 * k) qb rb P L') (hL : L'.length = n) : Mq w0 w' lab' pv ps P n :=
  ⟨h.b.went g (by omega) (by omega), own_turns h.r g.t (fun b hb q => by have := h.r4 b hb; omega), fun b hb => (g.o b (own_lt h.r hb)).trans (h.r4 b hb), fun i x hi => by
    by_cases e : i = k
    · subst e
      rw [hk] at hi
      cases hi
      exact ⟨L', p, hL⟩
    · obtain ⟨L, q, e'⟩ := h.p i x hi
      exact ⟨L, q.turnsM g.t (fun j _ hq hf => by omega) g.o, e'⟩⟩
/-- One more. -/
theorem Mq.add {w0 w w' : World} {lab : Nat → Nat} {pv pv' : Value} {ps : List (Nat × Nat)} {P n qb rb : Nat} (h : Mq w0 w lab pv ps P n) {L : List (List Int)} (p : Pr w lab (10 + 2 * ps.length) (11 + 2 * ps.length) qb rb P L) (hL : L.length = n) (t : Turns (fun i => pv.ownBlock = some i) w w') (hr : w'.ownsRow 0 55 2 pv' (ps.length + 1) (ps.flatMap cpp ++ cpp (qb, rb))) (hat : ∀ b, pv'.ownBlock = some b → pv.ownBlock = some b ∨ w.heap.size ≤ b) : Mq w0 w' (rl lab w 4) pv' (ps ++ [(qb, rb)]) P n := by
  have t4 : Turns (fun i => lab i = 4) w w' := t.mono (fun i _ q => h.r4 i q)
  refine ⟨h.b.step t4 (by decide), by simpa using hr, fun b hb => ?_, fun i x hi => ?_⟩
  · rcases hat b hb with q | q
    · exact (rl_old (own_lt h.r q)).trans (h.r4 b q)
    · exact rl_new q
  · by_cases e : i < ps.length
    · rw [List.getElem?_append_left e] at hi
      obtain ⟨L, q, e'⟩ := h.p i x hi
      exact ⟨L, q.turnsM t4 (fun j _ hq hf => by omega) (fun _ hi => rl_old hi), e'⟩
    · have hl := (List.getElem?_eq_some_iff.1 hi).1
      have e2 : i = ps.length := by simp at hl; omega
      subst e2
      rw [List.getElem?_concat_length] at hi
      cases hi
      exact ⟨L, p.turnsM t4 (fun j _ hq hf => by omega) (fun _ hi => rl_old hi), hL⟩
theorem prow_at {w : World} {base n cap : Nat} {ao : Option Addr} {W : List (Nat × Nat)} (h : w.ownsRow base 55 2 (.slice ao n cap) W.length (W.flatMap cpp)) (hn : W.length = n) (k : Nat) (hk : k < n) : ∃ g a b, ao = some ⟨g, 0, none⟩ ∧ n ≤ cap ∧ W[k]? = some (a, b) ∧ w.cell? ⟨g, k * 2, none⟩ = some (.pointer (some ⟨a, 0, none⟩)) ∧ w.cell? ⟨g, k * 2 + 1, none⟩ = some (.pointer (some ⟨b, 0, none⟩)) := by
  subst hn
  rcases own_shape h with ⟨_, q⟩ | ⟨g, cap', q, hc, _⟩
  · omega
  · cases q
    obtain ⟨e1, e2⟩ := cpp_at W k hk
    exact ⟨g, W[k].1, W[k].2, rfl, hc, List.getElem?_eq_getElem hk, by rw [h.cellAt _ (by omega), e1], by rw [h.cellAt _ (by omega), e2]⟩
structure Ms (w0 w : World) (pv : Value) (ps : List (Nat × Nat)) (P n sb : Nat) (l : List (Int × Int × Int)) : Prop where
  x : ∃ lab, Mq w0 w lab pv ps P n ∧ Qu KM w lab 2 sb 64 0 [l]
theorem Ms.drew {w0 w : World} {pv : Value} {ps : List (Nat × Nat)} {P n sb : Nat} {l : List (Int × Int × Int)} (h : Ms w0 w pv ps P n sb l) (m : Nat) : Ms w0 (w.drewN m) pv ps P n sb l := by
  obtain ⟨lab, M, Q⟩ := h.x
  exact ⟨lab, M.drew m, Q.drew m⟩
theorem new_okO (n p : Nat) (w : World) (lab : Nat → Nat) (k : Nat) (hc1 : 1 ≤ n) (hc2 : n ≤ 64) (hp1 : 1 ≤ p) (hp2 : p ≤ 64) :
    Calls Try.prog 22 #[.int .i64 n, .int .i64 p] w fun e w' => ∃ qb, e = .returned (.pointer (some ⟨qb, 0, none⟩)) ∧ Ru KR w' (rl lab w k) k qb p (n - 1) (List.replicate n []) ∧ Below w.heap.size w w' := by
  obtain ⟨m, rfl⟩ : ∃ m, n = m + 1 := ⟨n - 1, by omega⟩
  exact rnew_ok m p w lab k hc2 hp1 hp2
theorem pr_newO {w w1 w2 : World} {lab : Nat → Nat} {kq kr qb rb n p : Nat} (h1 : 1 ≤ n) (q : Qu KI w1 (rl lab w kq) kq qb p 0 (List.replicate n [])) (b2 : Below w1.heap.size w1 w2) (r : Ru KR w2 (rl (rl lab w kq) w1 kr) kr rb p (n - 1) (List.replicate n [])) : Pr w2 (rl (rl lab w kq) w1 kr) kq kr qb rb p (List.replicate n []) :=
  ⟨0, n - 1, q.below b2 kr, r, by rw [List.length_replicate, Nat.sub_add_cancel h1, Nat.mod_self]⟩
theorem Pr.drewO {w : World} {lab : Nat → Nat} {jq jr qb rb P : Nat} {L : List (List Int)} (h : Pr w lab jq jr qb rb P L) (m : Nat) : Pr (w.drewN m) lab jq jr qb rb P L := h.turnsM (Turns.drewN (fun _ => False) w m) (fun _ _ _ q => q) (fun _ _ => rfl)
end Go.Proofs.Ytkfdneohkgmmbaa
