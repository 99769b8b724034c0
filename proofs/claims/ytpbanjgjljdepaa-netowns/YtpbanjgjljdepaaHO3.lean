/- Lists that are appended to again and again while they, and others, stand; marks. -/
import Derived.Test.YtpbanjgjljdepaaHO2
import Derived.Test.YtpbanjgjljdepaaSplit
namespace Go.Proofs.Ytpbanjgjljdepaa
open Go.RowKit Go.Maps
set_option maxRecDepth 100000

def rep (k : Nat) (m : List Value) : List Value := (List.replicate k m).flatten
theorem rep_succ (k : Nat) (m : List Value) : rep (k + 1) m = rep k m ++ m := by
  simp [rep, List.replicate_succ', List.flatten_append]
theorem rep_add (n k : Nat) (m : List Value) : rep n m ++ rep k m = rep (n + k) m := by
  unfold rep
  rw [← List.flatten_append, List.replicate_append_replicate]
/-- A list stands while another one that begins as it does, in its block or elsewhere, is appended to. -/
theorem own_pre {w w' : World} {o : Obj} {x v v' : Value} {e s n k : Nat} {L X Y : List Value} (hx : w.ownsRow 0 e s x n L) (hv : w.ownsRow 0 e s v (n + k) X) (ho : w'.ownsRow 0 e s v' (n + k + 1) (L ++ Y)) (hL : Laid (w.alloc o) w' v v' (n + k) (n + k + 1)) : w'.ownsRow 0 e s x n L := by
  have ha : w.grownBy (w.alloc o) none := ⟨rfl, rfl, rfl, by simp, fun i hi _ => Below.heap_alloc w o i hi⟩
  rcases hx.2 with hx2 | ⟨gx, cap, cur, rfl, hg, hh, hnc, hcm, hcs, htk⟩
  · exact ⟨hx.1, Or.inl hx2⟩
  · have hha : (w.alloc o).heap[gx]? = some (.cells cur e (0, 0)) := (ha.block gx (heap_lt hh) (by simp)).trans hh
    rcases hL with ⟨g, capv, rfl, rfl, hgr⟩ | ⟨cap', rfl, hgr⟩
    · by_cases q : gx = g
      · subst q
        rcases hv.2 with ⟨q, _⟩ | ⟨g2, cap2, cur2, q, _, hh2, _, _, hcs2, _⟩
        · cases q
        · obtain ⟨q1, q2⟩ : g2 = gx ∧ cap2 = capv := by cases q; exact ⟨rfl, rfl⟩
          subst q1
          rw [hh] at hh2
          have q3 : cur = cur2 := (Obj.cells.inj (Option.some.inj hh2)).1
          subst q3
          rcases ho.2 with ⟨r, _⟩ | ⟨g3, cap3, cur3, r, _, hh3, hnc3, hcm3, hcs3, htk3⟩
          · cases r
          · obtain ⟨r1, r2⟩ : g3 = g2 ∧ cap3 = capv := by cases r; exact ⟨rfl, rfl⟩
            subst r1
            have hl : n * s ≤ (n + k + 1) * s := Nat.mul_le_mul_right _ (by omega)
            refine ⟨hx.1, Or.inr ⟨g3, cap, cur3, rfl, Nat.zero_le _, hh3, hnc, hcm, by rw [hcs3, r2, ← q2, ← hcs2, hcs], ?_⟩⟩
            have : (cur3.toList.take ((n + k + 1) * s)).take (n * s) = (L ++ Y).take (n * s) := by rw [htk3]
            rw [List.take_take, Nat.min_eq_left hl] at this
            rw [this, ← hx.1, List.take_left']
            rfl
      · exact ⟨hx.1, Or.inr ⟨gx, cap, cur, rfl, hg, (hgr.block gx (heap_lt hha) (fun r => q (Option.some.inj r))).trans hha, hnc, hcm, hcs, htk⟩⟩
    · exact ⟨hx.1, Or.inr ⟨gx, cap, cur, rfl, hg, (hgr.block gx (heap_lt hha) (by simp)).trans hha, hnc, hcm, hcs, htk⟩⟩
/-- A list in its k-th round, begun at the world wi; v0 is where it began. -/
structure Far (wi w : World) (e size n k : Nat) (v0 v : Value) (L m : List Value) : Prop where
  tu : Turns (fun i => v0.ownBlock = some i) wi w
  own : w.ownsRow 0 e size v (n + k) (L ++ rep k m)
  st : w.ownsRow 0 e size v0 n L
  pos : ∀ b, v.ownBlock = some b → v0.ownBlock = some b ∨ wi.heap.size ≤ b
theorem Far.start {w : World} {e size n : Nat} {v0 : Value} {L : List Value} (m : List Value) (h : w.ownsRow 0 e size v0 n L) : Far w w e size n 0 v0 v0 L m :=
  ⟨Turns.refl _ _, by simpa [rep] using h, h, fun _ => Or.inl⟩
theorem Far.step {wi w w' : World} {e size n k : Nat} {v0 v v' : Value} {L m : List Value} {o : Obj} (h : Far wi w e size n k v0 v L m) (ho : w'.ownsRow 0 e size v' (n + k + 1) (L ++ rep k m ++ m)) (hl : Laid (w.alloc o) w' v v' (n + k) (n + k + 1)) :
    Far wi w' e size n (k + 1) v0 v' L m := by
  have hs := h.tu.size
  obtain ⟨T, hp⟩ := laid_turns hl
  rw [List.append_assoc] at ho
  refine ⟨h.tu.trans T (fun i hi q => (h.pos i q).elim id (fun r => by omega)), by rw [rep_succ]; exact ho, own_pre h.st h.own ho hl, fun b hb => ?_⟩
  rcases hp with q | q
  · exact h.pos b (q.symm.trans hb)
  · rw [q] at hb; cases hb; right; omega
theorem own_fz {w : World} {base e s n c g : Nat} {xs : List Value} (h : w.ownsRow base e s (.slice (some ⟨g, 0, none⟩) n c) n xs) (i : Nat) : w.frozen? ⟨g, i, none⟩ = false := by
  rcases h.2 with ⟨q, _⟩ | ⟨_, _, _, q, _, hh, _⟩
  · cases q
  · cases q; simp [World.frozen?, hh]
/-- Lists of which no two share a block. -/
theorem sep_at {α : Type} {f : α → Value} {es : List α} (h : es.Pairwise (fun a b => ∀ g, (f a).ownBlock = some g → (f b).ownBlock ≠ some g)) {i j : Nat} {e d : α} (hi : es[i]? = some e) (hj : es[j]? = some d) (hne : i ≠ j) : ∀ g, (f e).ownBlock = some g → (f d).ownBlock ≠ some g := by
  obtain ⟨a1, a2⟩ := List.getElem?_eq_some_iff.1 hi
  obtain ⟨b1, b2⟩ := List.getElem?_eq_some_iff.1 hj
  subst a2; subst b2
  rcases Nat.lt_trichotomy i j with c | c | c
  · exact List.pairwise_iff_getElem.1 h i j a1 b1 c
  · exact absurd c hne
  · exact fun g q r => List.pairwise_iff_getElem.1 h j i b1 a1 c g r q
/-- Lists of element type e and size s in memory: those ahead of t hold A i, the others B i. -/
structure Rows {α : Type} (w : World) (e s : Nat) (f : α → Value) (n : α → Nat) (A B : Nat → α → List Value) (es : List α) (t : Nat) : Prop where
  lo : ∀ i x, es[i]? = some x → i < t → w.ownsRow 0 e s (f x) (n x) (A i x)
  hi : ∀ i x, es[i]? = some x → t ≤ i → w.ownsRow 0 e s (f x) (n x) (B i x)
theorem Rows.own {α : Type} {w : World} {e s : Nat} {f : α → Value} {n : α → Nat} {A B : Nat → α → List Value} {es : List α} {t : Nat} (h : Rows w e s f n A B es t) {i : Nat} {x : α} (hx : es[i]? = some x) : ∃ L, w.ownsRow 0 e s (f x) (n x) L := by
  by_cases q : i < t
  · exact ⟨_, h.lo i x hx q⟩
  · exact ⟨_, h.hi i x hx (by omega)⟩
theorem Rows.step {α : Type} {w w' : World} {e s : Nat} {f : α → Value} {n : α → Nat} {A B : Nat → α → List Value} {es : List α} {t : Nat} {x : α} (h : Rows w e s f n A B es t) (sep : es.Pairwise (fun a b => ∀ g, (f a).ownBlock = some g → (f b).ownBlock ≠ some g)) (hx : es[t]? = some x) (T : Turns (fun i => (f x).ownBlock = some i) w w') (hb : w'.ownsRow 0 e s (f x) (n x) (A t x)) : Rows w' e s f n A B es (t + 1) := by
  refine ⟨fun i y hy hi => ?_, fun i y hy hi => ?_⟩
  · by_cases c : i = t
    · subst c; rw [hx] at hy; cases hy; exact hb
    · exact own_turns (h.lo i y hy (by omega)) T (sep_at sep hy hx c)
  · exact own_turns (h.hi i y hy (by omega)) T (sep_at sep hy hx (by omega))
theorem Rows.turns {α : Type} {F : Nat → Prop} {w w' : World} {e s : Nat} {f : α → Value} {n : α → Nat} {A B : Nat → α → List Value} {es : List α} {t : Nat} (h : Rows w e s f n A B es t) (T : Turns F w w') (hF : ∀ x ∈ es, ∀ b, (f x).ownBlock = some b → ¬ F b) : Rows w' e s f n A B es t :=
  ⟨fun i x hx hi => own_turns (h.lo i x hx hi) T (hF x (List.mem_of_getElem? hx)), fun i x hx hi => own_turns (h.hi i x hx hi) T (hF x (List.mem_of_getElem? hx))⟩
/-- The lists that went on behind: the i-th holds A i; it lies where it began, or in new memory. -/
def Gone {α : Type} (w : World) (Z e s : Nat) (f : α → Value) (n : α → Nat) (A : Nat → α → List Value) (es : List α) (fv : List Value) : Prop := ∀ i x v, es[i]? = some x → fv[i]? = some v → w.ownsRow 0 e s v (n x) (A i x) ∧ ∀ b, v.ownBlock = some b → (f x).ownBlock = some b ∨ Z ≤ b
theorem Gone.turns {α : Type} {F : Nat → Prop} {w w' : World} {Z e s : Nat} {f : α → Value} {n : α → Nat} {A : Nat → α → List Value} {es : List α} {fv : List Value} (h : Gone w Z e s f n A es fv) (T : Turns F w w') (hF : ∀ (i : Nat) (x : α) (v : Value), es[i]? = some x → fv[i]? = some v → ∀ b, v.ownBlock = some b → ¬ F b) : Gone w' Z e s f n A es fv :=
  fun i x v hx hv => ⟨own_turns (h i x v hx hv).1 T (hF i x v hx hv), (h i x v hx hv).2⟩
theorem Gone.snoc {α : Type} {w : World} {Z e s : Nat} {f : α → Value} {n : α → Nat} {A : Nat → α → List Value} {es : List α} {fv : List Value} (h : Gone w Z e s f n A es fv) {x : α} {v : Value} (hx : es[fv.length]? = some x) (ho : w.ownsRow 0 e s v (n x) (A fv.length x)) (hp : ∀ b, v.ownBlock = some b → (f x).ownBlock = some b ∨ Z ≤ b) : Gone w Z e s f n A es (fv ++ [v]) := fun i y u hy hu => by
  rw [List.getElem?_append] at hu
  by_cases c : i < fv.length
  · rw [if_pos c] at hu; exact h i y u hy hu
  · rw [if_neg c] at hu
    have := (List.getElem?_eq_some_iff.1 hu).1
    have hi : i = fv.length := by simp at this; omega
    subst hi
    rw [hx] at hy; cases hy
    simp at hu; subst hu
    exact ⟨ho, hp⟩
end Go.Proofs.Ytpbanjgjljdepaa
