/- What a step of a play leaves; mark. -/
import Derived.Test.YtpbanjgjljdepaaKC1
namespace Go.Proofs.Ytpbanjgjljdepaa
open Go.RowKit Go.Maps
set_option maxRecDepth 100000
variable {w w' w0 w1 : World} {lab lab' lab'' : Nat → Nat} {k j pb c : Nat} {a b : Nat → Nat} {v bv bv' l : Value} {st : Int} {lg : Bool} {F : Nat → Prop} {S R : Nat → St} {es : List Ke}
theorem mark_any (h : Pl w lab k pb a b bv st lg S R es) (i : Int) :
    Calls Try.prog 47 #[.pointer (some ⟨pb, 0, none⟩), .int .i64 i] w fun e w' => ∃ m, e = .returned (.int .u8 m) ∧ w' = w := by
  have c5 : w.cell? ⟨pb, 5, none⟩ = some (.int .i64 st) := h.cell 5 _ rfl
  go_enter Try.func47, Try.ntmps47
  go_wp2_with fail
  go_ret
  exact ⟨_, rfl, rfl⟩
/-- What a step of the play k leaves to all others: only its own blocks turned, and only they changed hands. -/
structure Fr (k : Nat) (w w' : World) (lab lab' : Nat → Nat) : Prop where
  t : Turns (fun i => Mine k (lab i)) w w'
  hl : ∀ i, i < w.heap.size → ¬ Mine k (lab i) → lab' i = lab i
theorem Fr.refl (k : Nat) (w : World) (lab : Nat → Nat) : Fr k w w lab lab := ⟨Turns.refl _ _, fun _ _ _ => rfl⟩
theorem Fr.trans (h : Fr k w w1 lab lab') (g : Fr k w1 w' lab' lab'') : Fr k w w' lab lab'' :=
  ⟨h.t.trans g.t (fun i hi q => Classical.byContradiction fun r => r (by rw [← h.hl i hi (fun x => r x)]; exact q)), fun i hi q => (g.hl i (Nat.lt_of_lt_of_le hi h.t.size) (by rw [h.hl i hi q]; exact q)).trans (h.hl i hi q)⟩
theorem Fr.below (u : Below w.heap.size w w') (m : Nat) : Fr k w w' lab (rl lab w m) := ⟨Below.turns u _, fun _ hi _ => rl_old hi⟩
theorem Fr.wk (h : Fr k w w' lab lab') (g : Wk w0 lab w) (hk : 0 < k) : Wk w0 lab' w' :=
  g.turns h.t (fun i q r => by have := q.1; omega) (fun i hi => h.hl i (Nat.lt_of_lt_of_le hi g.b.size) (fun q => by have := q.1; rw [g.z i hi] at this; omega))
theorem Fr.box (h : Fr k w w' lab lab') {i : Nat} {o : Obj} (g : w.heap[i]? = some o) (hi : ¬ Mine k (lab i)) : w'.heap[i]? = some o ∧ ¬ Mine k (lab' i) :=
  ⟨(h.t.block i (heap_lt g) hi).trans g, by rw [h.hl i (heap_lt g) hi]; exact hi⟩
/-- One of the program's nets stepped. -/
theorem Pl.stepN (h : Pl w lab k pb a b bv st lg S R es) (hc : c < 2) {T : St} (hN : Nt w' lab' (k + c) (a c) T) (t : Turns (fun i => lab i = k + c) w w') (hl : ∀ i, i < w.heap.size → lab i ≠ k + c → lab' i = lab i) (hs : lg = false → ∀ f ∈ T.l, f.d.length ≤ 4096) : Pl w' lab' k pb a b bv st lg (upd2 S c T) R es ∧ Fr k w w' lab lab' := by
  have key : ∀ m, m ≠ k + c → ∀ i, i < w.heap.size → lab i = m → lab' i = m := fun m hm i hi q => (hl i hi (fun r => hm (q.symm.trans r))).trans q
  have no : ∀ m, m ≠ k + c → ∀ i, i < w.heap.size → lab i = m → ¬ lab i = k + c := fun m hm i _ q r => hm (q.symm.trans r)
  refine ⟨⟨(t.block pb (heap_lt h.box) (no _ (by omega) _ (heap_lt h.box) h.lb)).trans h.box, fun e he => ?_, fun e he => (h.d e he).turns t (no _ (by omega)) (key _ (by omega)), h.bk.relab t (no _ (by omega)) (key _ (by omega)), key _ (by omega) _ (heap_lt h.box) h.lb, h.few, fun q e he => ?_⟩, ⟨t.mono (fun i _ q => ⟨by omega, by omega⟩), fun i hi q => hl i hi (fun r => q ⟨by omega, by omega⟩)⟩⟩
  · by_cases hec : e = c
    · subst hec; rw [upd2_at]; exact hN
    · rw [upd2_off _ _ _ _ hec]; exact (h.n e he).turns t (no _ (by omega)) (key _ (by omega))
  · by_cases hec : e = c
    · subst hec; rw [upd2_at]; exact hs q
    · rw [upd2_off _ _ _ _ hec]; exact h.short q e he
/-- One of the document's. -/
theorem Pl.stepD (h : Pl w lab k pb a b bv st lg S R es) (hc : c < 2) {T : St} (hN : Dn w' lab' (k + 2 + c) (b c) T) (t : Turns (fun i => lab i = k + 2 + c) w w') (hl : ∀ i, i < w.heap.size → lab i ≠ k + 2 + c → lab' i = lab i) : Pl w' lab' k pb a b bv st lg S (upd2 R c T) es ∧ Fr k w w' lab lab' := by
  have key : ∀ m, m ≠ k + 2 + c → ∀ i, i < w.heap.size → lab i = m → lab' i = m := fun m hm i hi q => (hl i hi (fun r => hm (q.symm.trans r))).trans q
  have no : ∀ m, m ≠ k + 2 + c → ∀ i, i < w.heap.size → lab i = m → ¬ lab i = k + 2 + c := fun m hm i _ q r => hm (q.symm.trans r)
  refine ⟨⟨(t.block pb (heap_lt h.box) (no _ (by omega) _ (heap_lt h.box) h.lb)).trans h.box, fun e he => (h.n e he).turns t (no _ (by omega)) (key _ (by omega)), fun e he => ?_, h.bk.relab t (no _ (by omega)) (key _ (by omega)), key _ (by omega) _ (heap_lt h.box) h.lb, h.few, h.short⟩, ⟨t.mono (fun i _ q => ⟨by omega, by omega⟩), fun i hi q => hl i hi (fun r => q ⟨by omega, by omega⟩)⟩⟩
  by_cases hec : e = c
  · subst hec; rw [upd2_at]; exact hN
  · rw [upd2_off _ _ _ _ hec]; exact (h.d e he).turns t (no _ (by omega)) (key _ (by omega))
/-- Its step, or whether it is long, is stored. -/
theorem Pl.boxed (h : Pl w lab k pb a b bv st lg S R es) {st' : Int} {lg' : Bool} (t : Turns (fun i => i = pb) w w') (hb : w'.heap[pb]? = some (.cells (plC a b bv st' lg') 71 (0, 0))) (hs : lg' = false → lg = false) : Pl w' lab k pb a b bv st' lg' S R es ∧ Fr k w w' lab lab := by
  have no : ∀ m, m ≠ k + 5 → ∀ i, i < w.heap.size → lab i = m → ¬ i = pb := fun m hm i _ q r => hm (by rw [← q, r]; exact h.lb)
  exact ⟨⟨hb, fun e he => (h.n e he).turns t (no _ (by omega)) (fun _ _ q => q), fun e he => (h.d e he).turns t (no _ (by omega)) (fun _ _ q => q), h.bk.relab t (no _ (by omega)) (fun _ _ q => q), h.lb, h.few, fun q => h.short (hs q)⟩, ⟨t.mono (fun i _ q => by subst q; exact ⟨by rw [h.lb]; omega, by rw [h.lb]; omega⟩), fun _ _ _ => rfl⟩⟩
/-- A list joined its book. -/
theorem Pl.booked (h : Pl w lab k pb a b bv st lg S R es) (q : Kept3 w w1 (fun i => lab i = k + 4) bv l bv' es) (hlb : ∀ i, l.ownBlock = some i → ¬ Mine k (lab i)) (t : Turns (fun i => i = pb) w1 w') (hb : w'.heap[pb]? = some (.cells (plC a b bv' st lg) 71 (0, 0))) (he : es.length ≤ 1297) : ∃ es', es'.length = es.length + 3 ∧ Pl w' (tl lab w (k + 4) (k + 4) l) k pb a b bv' st lg S R es' := by
  obtain ⟨fs, hf, hB, hT⟩ := q
  have L : ∀ m, m ≠ k + 4 → k ≤ m → m < k + 6 → ∀ i, i < w.heap.size → lab i = m → tl lab w (k + 4) (k + 4) l i = m := fun m hm m1 m2 i hi q => by
    rw [tl_off (fun r => hlb i r ⟨by omega, by omega⟩), rl_old hi]; exact q
  have t2 : Turns (fun i => lab i = k + 4 ∨ l.ownBlock = some i ∨ i = pb) w w' := (hT.mono (fun i _ q => q.elim (fun r => Or.inl (h.bk.kb i r)) (fun r => Or.inr (Or.inl r)))).trans (t.mono (fun i _ q => Or.inr (Or.inr q))) (fun _ _ r => r)
  have no : ∀ m, m ≠ k + 4 → m ≠ k + 5 → k ≤ m → m < k + 6 → ∀ i, i < w.heap.size → lab i = m → ¬ (lab i = k + 4 ∨ l.ownBlock = some i ∨ i = pb) := fun m h1 h2 m1 m2 i hi q r => by
    rcases r with r | r | r
    · omega
    · exact hlb i r ⟨by omega, by omega⟩
    · rw [r, h.lb] at q; omega
  have hpw : pb < w1.heap.size := Nat.lt_of_lt_of_le (heap_lt h.box) hT.size
  refine ⟨es ++ fs, by simp [hf], hb, fun e he => (h.n e he).turns t2 (no _ (by omega) (by omega) (by omega) (by omega)) (L _ (by omega) (by omega) (by omega)), fun e he => (h.d e he).turns t2 (no _ (by omega) (by omega) (by omega) (by omega)) (L _ (by omega) (by omega) (by omega)), ?_, L _ (by omega) (by omega) (by omega) _ (heap_lt h.box) h.lb, by simp [hf]; omega, h.short⟩
  have ne : ∀ b, (lab b = k + 4 ∨ l.ownBlock = some b ∨ (w.heap.size ≤ b ∧ b < w1.heap.size)) → ¬ b = pb := fun b q r => by
    subst r
    rcases q with q | q | q
    · rw [h.lb] at q; omega
    · exact hlb b q (by rw [h.lb]; exact ⟨by omega, by omega⟩)
    · have := heap_lt h.box; omega
  refine (hB.turns t ne).mono (fun i q => ?_)
  by_cases hi : l.ownBlock = some i
  · exact tl_at hi
  · rw [tl_off hi]
    rcases q with q | q | q
    · by_cases hw : i < w.heap.size
      · rw [rl_old hw]; exact q
      · exact rl_new (by omega)
    · exact absurd q hi
    · exact rl_new q.1
end Go.Proofs.Ytpbanjgjljdepaa
