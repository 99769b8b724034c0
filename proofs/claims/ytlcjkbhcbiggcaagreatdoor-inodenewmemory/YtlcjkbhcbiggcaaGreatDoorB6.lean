/- The book in memory. -/
import Derived.Test.YtlcjkbhcbiggcaaGreatDoorB5
namespace Go.Proofs.YtlcjkbhcbiggcaaGreatDoor
open Go.RowKit Go.Maps
set_option maxRecDepth 100000

/-- The book in memory. -/
structure Bo (w : World) (base kb : Nat) (lv gv : Value) (L : List Ino) (G : List Int) : Prop where
  box : w.heap[kb]? = some (.cells #[lv, gv] 30 (0, 0))
  lo : w.ownsRow base 38 13 lv L.length (inLs L)
  go : w.ownsRow base 3 1 gv G.length (G.map (Value.int .i64))
  kn : base ≤ kb
/-- Its blocks. -/
def boS (kb : Nat) (lv gv : Value) (b : Nat) : Prop := b = kb ∨ lv.ownBlock = some b ∨ gv.ownBlock = some b
theorem Bo.lt {w : World} {base kb : Nat} {lv gv : Value} {L : List Ino} {G : List Int} (h : Bo w base kb lv gv L G) {b : Nat} (hb : boS kb lv gv b) : base ≤ b ∧ b < w.heap.size := by
  rcases hb with rfl | hb | hb
  · exact ⟨h.kn, heap_lt h.box⟩
  · exact h.lo.lt b hb
  · exact h.go.lt b hb
theorem Bo.turns {X : Nat → Prop} {w w' : World} {base kb : Nat} {lv gv : Value} {L : List Ino} {G : List Int} (h : Bo w base kb lv gv L G) (t : Turns X w w') (hX : ∀ b, boS kb lv gv b → ¬ X b) : Bo w' base kb lv gv L G :=
  ⟨(t.block kb (heap_lt h.box) (hX kb (Or.inl rfl))).trans h.box, own_turns h.lo t (fun b hb => hX b (Or.inr (Or.inl hb))), own_turns h.go t (fun b hb => hX b (Or.inr (Or.inr hb))), h.kn⟩
theorem Bo.below {w w' : World} {base kb : Nat} {lv gv : Value} {L : List Ino} {G : List Int} (h : Bo w base kb lv gv L G) (b : Below w.heap.size w w') : Bo w' base kb lv gv L G :=
  h.turns (Below.turns b (fun _ => False)) (fun _ _ => id)
theorem Bo.c0 {w : World} {base kb : Nat} {lv gv : Value} {L : List Ino} {G : List Int} (h : Bo w base kb lv gv L G) : w.cell? ⟨kb, 0, none⟩ = some lv := by simp [World.cell?, h.box]
theorem Bo.c1 {w : World} {base kb : Nat} {lv gv : Value} {L : List Ino} {G : List Int} (h : Bo w base kb lv gv L G) : w.cell? ⟨kb, 1, none⟩ = some gv := by simp [World.cell?, h.box]
theorem Bo.fz {w : World} {base kb : Nat} {lv gv : Value} {L : List Ino} {G : List Int} (h : Bo w base kb lv gv L G) (o : Nat) : w.frozen? ⟨kb, o, none⟩ = false := by simp [World.frozen?, h.box]
/-- A statement's world with its book. -/
structure Sk (w0 w : World) (wb N kb : Nat) (c : Kc) (i : Nat) (ks : List Nat) (m : Nat) (T : Nat → Rec) (L : List Ino) (G : List Int) (F : Nat → Prop) (v : Nat → List Int) (lv gv : Value) : Prop where
  st : St w0 w wb N c i F v ks m T
  bo : Bo w w0.heap.size kb lv gv L G
  nF : ∀ b, boS kb lv gv b → ¬ F b
  ok : Bok N T L G
def ftS (F : Nat → Prop) (kb : Nat) (lv gv : Value) (b : Nat) : Prop := F b ∨ boS kb lv gv b
theorem Sk.nW {w0 w : World} {wb N kb : Nat} {c : Kc} {i : Nat} {ks : List Nat} {m : Nat} {T : Nat → Rec} {L : List Ino} {G : List Int} {F : Nat → Prop} {v : Nat → List Int} {lv gv : Value} (h : Sk w0 w wb N kb c i ks m T L G F v lv gv) : ¬ boS kb lv gv wb := by
  rintro (e | e | e)
  · have := h.bo.box
    rw [← e, h.st.B] at this
    exact absurd (Obj.cells.inj (Option.some.inj this)).2.1 (by decide)
  · exact own_typeJ h.bo.lo h.st.B (by decide) e
  · exact own_typeJ h.bo.go h.st.B (by decide) e
theorem Sk.keep {X : Nat → Prop} {w0 w w' : World} {wb N kb : Nat} {c : Kc} {i : Nat} {ks : List Nat} {m : Nat} {T : Nat → Rec} {L : List Ino} {G : List Int} {F : Nat → Prop} {v : Nat → List Int} {lv gv : Value} (h : Sk w0 w wb N kb c i ks m T L G F v lv gv) (t : Turns X w w') (hX : ∀ b, ftS F kb lv gv b → ¬ X b) (hw : ¬ X wb) (hb : Below w0.heap.size w w') : Sk w0 w' wb N kb c i ks m T L G F v lv gv :=
  ⟨h.st.keep t (fun b hb => hX b (Or.inl hb)) hw hb, h.bo.turns t (fun b hb => hX b (Or.inr hb)), h.nF, h.ok⟩
theorem Sk.below {w0 w w' : World} {wb N kb : Nat} {c : Kc} {i : Nat} {ks : List Nat} {m : Nat} {T : Nat → Rec} {L : List Ino} {G : List Int} {F : Nat → Prop} {v : Nat → List Int} {lv gv : Value} (h : Sk w0 w wb N kb c i ks m T L G F v lv gv) (b : Below w.heap.size w w') : Sk w0 w' wb N kb c i ks m T L G F v lv gv :=
  ⟨h.st.below b, h.bo.below b, h.nF, h.ok⟩
/-- A call of the layer turned the table; the book is as it was. -/
theorem Sk.stepO {w0 w w' : World} {wb N kb : Nat} {c : Kc} {i : Nat} {ks : List Nat} {m : Nat} {T : Nat → Rec} {L : List Ino} {G : List Int} {F : Nat → Prop} {v : Nat → List Int} {lv gv : Value} (h : Sk w0 w wb N kb c i ks m T L G F v lv gv) {o : Option (Nat × Rec)} (ho : ∀ n r, o = some (n, r) → n < N ∧ Rit (lay9 N) r) (hz : Rz w w' w.heap.size c i F v ks m 34 o) :
    ∃ F' v', St w0 w' wb N c i F' v' (keyO ks o) (m + 1) (updT T o) ∧ Bo w' w0.heap.size kb lv gv L G ∧ (∀ b, boS kb lv gv b → ¬ F' b) ∧ Turns F w w' ∧ ∀ b, F' b → F b ∨ w.heap.size ≤ b := by
  obtain ⟨F', v', s, t, f⟩ := h.st.step (Nat.le_refl _) ho hz
  refine ⟨F', v', s, h.bo.turns t h.nF, fun b hb q => ?_, t, f⟩
  rcases f b q with r | r
  · exact h.nF b hb r
  · have := (h.bo.lt hb).2
    omega
/-- What a step of the book leaves. -/
def SkR (w0 w w' : World) (wb N kb : Nat) (c : Kc) (i : Nat) (ks : List Nat) (m : Nat) (T : Nat → Rec) (G : List Int) (F : Nat → Prop) (lv gv : Value) : Prop :=
  ∃ o L' G' F' v' lv' gv', Sk w0 w' wb N kb c i (keyO ks o) (m + 1) (updT T o) L' G' F' v' lv' gv' ∧ Turns (ftS F kb lv gv) w w' ∧ (∀ b, ftS F' kb lv' gv' b → ftS F kb lv gv b ∨ w.heap.size ≤ b) ∧ G'.length ≤ G.length + 1 ∧ ∀ n r, o = some (n, r) → n < N ∧ ((T n).kind ≠ 0 ∨ (G'.length = G.length + 1 ∧ ∀ j, j < n → (T j).kind ≠ 0))
/-- A step that left the table and the book as they were. -/
theorem Sk.same {w0 w w1 w' : World} {wb N kb : Nat} {c : Kc} {i : Nat} {ks : List Nat} {m : Nat} {T : Nat → Rec} {L : List Ino} {G : List Int} {F : Nat → Prop} {v : Nat → List Int} {lv gv : Value} (h : Sk w0 w wb N kb c i ks m T L G F v lv gv) (hz : Rz w w1 w.heap.size c i F v ks m 34 none) (b : Below w1.heap.size w1 w') : SkR w0 w w' wb N kb c i ks m T G F lv gv := by
  obtain ⟨F', v', s, bo, nF, t, f⟩ := h.stepO (o := none) (fun _ _ q => by cases q) hz
  have z := t.size
  refine ⟨none, L, G, F', v', lv, gv, ⟨s.below b, bo.below b, nF, h.ok⟩, (t.mono (fun _ _ q => Or.inl q)).trans (Below.turns b (fun _ => False)) (fun _ _ q => q.elim), fun b hb => ?_, by omega, fun _ _ q => by cases q⟩
  rcases hb with q | q
  · rcases f b q with r | r
    · exact Or.inl (Or.inl r)
    · exact Or.inr r
  · exact Or.inl (Or.inr q)
end Go.Proofs.YtlcjkbhcbiggcaaGreatDoor
