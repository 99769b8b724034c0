/- A list that fills its block is appended to again and again: it goes to a new block at the first, and stays there. -/
import Derived.Test.YtkffnbcfmaoldabOB
import Derived.Test.YtkffnbcfmaoldabSplit
namespace Go.Proofs.Ytkffnbcfmaoldab
open Go.RowKit Go.Maps
set_option maxRecDepth 100000

theorem own_up {w : World} {base B e size n : Nat} {v : Value} {xs : List Value} (h : w.ownsRow base e size v n xs) (hB : ∀ b, v.ownBlock = some b → B ≤ b) : w.ownsRow B e size v n xs :=
  ⟨h.1, h.2.imp id fun ⟨g, cap, cur, h1, _, h3⟩ => ⟨g, cap, cur, h1, hB g (by rw [h1]; rfl), h3⟩⟩
/-- Bytes that fill a block are a row. -/
theorem own_full {w : World} {base g e size n : Nat} {xs : List Value} (h : w.heap[g]? = some (.cells xs.toArray e (0, 0))) (hn : xs.length = n * size) (hb : base ≤ g) (hm : n ≤ maxLen) : w.ownsRow base e size (.slice (some ⟨g, 0, none⟩) n n) n xs :=
  ⟨hn, Or.inr ⟨g, n, xs.toArray, rfl, hb, h, Nat.le_refl _, hm, by simp [hn], by simp [← hn]⟩⟩
def rep (k : Nat) (m : List Value) : List Value := (List.replicate k m).flatten
theorem rep_succ (k : Nat) (m : List Value) : rep (k + 1) m = rep k m ++ m := by
  simp [rep, List.replicate_succ', List.flatten_append]
/-- A list in its k-th round, begun at the world wi. -/
structure Far (wi w : World) (base e size n k : Nat) (v : Value) (g : Nat) (L m : List Value) : Prop where
  blw : Below wi.heap.size wi w
  own : w.ownsRow base e size v (n + k) (L ++ rep k m)
  pos : (k = 0 ∧ v = .slice (some ⟨g, 0, none⟩) n n) ∨ (∀ b, v.ownBlock = some b → wi.heap.size ≤ b)
theorem Far.start {w : World} {base e size n g : Nat} {L : List Value} (m : List Value) (h : w.ownsRow base e size (.slice (some ⟨g, 0, none⟩) n n) n L) : Far w w base e size n 0 (.slice (some ⟨g, 0, none⟩) n n) g L m :=
  ⟨Below.refl _ _, by simpa [rep] using h, Or.inl ⟨rfl, rfl⟩⟩
theorem Far.step {wi w w' : World} {base e size n k g : Nat} {v v' : Value} {L m : List Value} {o : Obj} (h : Far wi w base e size n k v g L m) (ho : w'.ownsRow base e size v' (n + k + 1) (L ++ rep k m ++ m)) (hl : Laid (w.alloc o) w' v v' (n + k) (n + k + 1)) :
    Far wi w' base e size n (k + 1) v' g L m := by
  have b1 := h.blw.alloc h.blw.size o
  have hs := h.blw.size
  have hw : (w.alloc o).heap.size = w.heap.size + 1 := by simp
  have fin : (∀ b, v'.ownBlock = some b → wi.heap.size ≤ b) → Below wi.heap.size wi w' → Far wi w' base e size n (k + 1) v' g L m := fun q r => ⟨r, by rw [rep_succ, ← List.append_assoc]; exact ho, Or.inr q⟩
  rcases hl with ⟨g', cap, rfl, rfl, hg⟩ | ⟨cap, rfl, hg⟩
  · have hg' : wi.heap.size ≤ g' := by
      rcases h.pos with ⟨rfl, q⟩ | q
      · cases q
        rcases ho.2 with ⟨q, _⟩ | ⟨_, _, _, q, _, _, q2, _⟩
        · cases q
        · cases q; omega
      · exact q g' rfl
    refine fin (fun b e => by cases e; exact hg') (b1.trans ?_)
    exact (Turns.grown (F := fun i => i = g') hg (fun b e => by cases e; rfl)).below (fun i e => by omega) (by omega)
  · refine fin (fun b e => by cases e; show wi.heap.size ≤ (w.alloc o).heap.size; omega) (b1.trans ?_)
    exact (Turns.grown (F := fun i => False) hg (fun b e => by cases e)).below (fun i e => e.elim) (by omega)
theorem Far.done {wi w : World} {base e size n k g : Nat} {v : Value} {L m : List Value} (h : Far wi w base e size n k v g L m) (hk : 0 < k) : w.ownsRow wi.heap.size e size v (n + k) (L ++ rep k m) :=
  own_up h.own (h.pos.elim (fun q => by omega) id)
end Go.Proofs.Ytkffnbcfmaoldab
