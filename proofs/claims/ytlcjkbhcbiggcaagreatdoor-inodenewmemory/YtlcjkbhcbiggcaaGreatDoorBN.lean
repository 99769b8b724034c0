/- An inode written into a list. -/
import Derived.Test.YtlcjkbhcbiggcaaGreatDoorBM
namespace Go.Proofs.YtlcjkbhcbiggcaaGreatDoor
open Go.RowKit Go.Maps
set_option maxRecDepth 100000

def setL (xs : List Value) : Nat → List Value → List Value
  | _, [] => xs
  | o, v :: vs => setL (xs.set o v) (o + 1) vs
theorem setL_len : ∀ (ys xs : List Value) (o : Nat), (setL xs o ys).length = xs.length
  | [], _, _ => rfl
  | v :: vs, xs, o => by unfold setL; rw [setL_len vs]; simp
theorem setL_at : ∀ (ys xs : List Value) (o k : Nat), o + ys.length ≤ xs.length → (setL xs o ys)[k]? = if o ≤ k ∧ k < o + ys.length then ys[k - o]? else xs[k]?
  | [], xs, o, k, _ => by rw [if_neg (by simp)]; rfl
  | v :: vs, xs, o, k, h => by
    unfold setL
    rw [setL_at vs (xs.set o v) (o + 1) k (by simp at h ⊢; omega)]
    simp only [List.length_cons] at h ⊢
    by_cases e : k = o
    · subst e
      rw [if_neg (by omega), if_pos (by omega), List.getElem?_set_self (by omega)]
      simp
    · by_cases q : o + 1 ≤ k ∧ k < o + 1 + vs.length
      · rw [if_pos q, if_pos (by omega)]
        obtain ⟨d, rfl⟩ : ∃ d, k = o + 1 + d := ⟨k - (o + 1), by omega⟩
        rw [show o + 1 + d - (o + 1) = d by omega, show o + 1 + d - o = d + 1 by omega]
        simp
      · rw [if_neg q, if_neg (by omega), List.getElem?_set_ne (by omega)]
theorem own_setCells {base e size g n cap : Nat} : ∀ (ys xs : List Value) (o : Nat) (w : World), w.ownsRow base e size (.slice (some ⟨g, 0, none⟩) n cap) n xs → o + ys.length ≤ n * size → (w.setCells g o ys).ownsRow base e size (.slice (some ⟨g, 0, none⟩) n cap) n (setL xs o ys)
  | [], _, _, _, h, _ => h
  | v :: vs, xs, o, w, h, ho => own_setCells vs (xs.set o v) (o + 1) (w.setCell ⟨g, o, none⟩ v) (h.stored o v).1 (by simp at ho; omega)
theorem inLs_set (L : List Ino) (j : Nat) (x : Ino) (hj : j < L.length) : setL (inLs L) (j * 13) (inA x).toList = inLs (L.set j x) := by
  have hl : (inA x).toList.length = 13 := rfl
  apply List.ext_getElem?
  intro k
  rw [setL_at _ _ _ _ (by rw [inLs_len, hl]; omega), hl]
  by_cases hk : k < L.length * 13
  · have ek : k / 13 * 13 + k % 13 = k := by omega
    have hq : k / 13 < L.length := by omega
    by_cases e : k / 13 = j
    · rw [if_pos (by omega)]
      have h1 := inLs_at (L.set j x) j (k % 13) x (by simp [hj]) (by omega)
      rw [show j * 13 + k % 13 = k by omega] at h1
      rw [h1, show k - j * 13 = k % 13 by omega]
    · rw [if_neg (by omega)]
      obtain ⟨y, hy⟩ : ∃ y, L[k / 13]? = some y := ⟨_, List.getElem?_eq_getElem hq⟩
      have h1 := inLs_at (L.set j x) (k / 13) (k % 13) y (by rw [List.getElem?_set_ne (fun q => e q.symm)]; exact hy) (by omega)
      have h2 := inLs_at L (k / 13) (k % 13) y hy (by omega)
      rw [ek] at h1 h2
      rw [h1, h2]
  · rw [if_neg (by omega), List.getElem?_eq_none (by rw [inLs_len]; omega), List.getElem?_eq_none (by rw [inLs_len]; simp; omega)]
/-- The book's inode at j is another. -/
theorem Bo.setAt {w : World} {base kb g cap n : Nat} {gv : Value} {L : List Ino} {G : List Int} (h : Bo w base kb (.slice (some ⟨g, 0, none⟩) n cap) gv L G) (hn : n = L.length) {j : Nat} (hj : j < L.length) (x : Ino) : Bo (w.setCells g (j * 13) (inA x).toList) base kb (.slice (some ⟨g, 0, none⟩) n cap) gv (L.set j x) G := by
  subst hn
  have t := turns_setCells g (inA x).toList (j * 13) w
  refine ⟨(t.block kb (heap_lt h.box) (fun e => own_typeJ h.lo h.box (by decide) (by rw [e]; rfl))).trans h.box, ?_, own_turns h.go t (fun b hb e => own_apart h.go h.lo (by decide) hb (by rw [e]; rfl)), h.kn⟩
  have := own_setCells (inA x).toList (inLs L) (j * 13) w h.lo (by show j * 13 + 13 ≤ _; omega)
  rw [inLs_set L j x hj] at this
  rw [List.length_set]
  exact this
/-- What Put may answer. -/
def PtO (N : Nat) (T : Nat → Rec) (l : Lay) (x : Ino) (q : Int) (o : Option (Nat × Rec)) : Prop :=
  (o = none ∧ (q = 1 ∨ (q = 91 ∧ ∀ n, ¬ Has T N x.id n))) ∨ ∃ n, o = some (n, recOf (T n).gen x) ∧ mayBI l x = true ∧ Has T N x.id n ∧ (T n).kind = x.kind ∧ q = 0
theorem PtR.o {w w' : World} {c : Kc} {i : Nat} {F : Nat → Prop} {v : Nat → List Int} {ks : List Nat} {m ta N : Nat} {T : Nat → Rec} {l : Lay} {x : Ino} {e : Ending} (h : PtR w w' c i F v ks m ta N T l x e) : ∃ q o, e = .returned (.int .i64 q) ∧ Hid (PtO N T l x q o) ∧ Rz w w' w.heap.size c i F v ks m ta o := by
  rcases h with ⟨q, h1, h2, h3, h4⟩ | ⟨n, h1, h2, h3, h4, h5⟩
  · refine ⟨q, none, h2, Or.inl ⟨rfl, ?_⟩, h3, h4⟩
    rcases h1 with ⟨h1, _⟩ | ⟨h1, _, h1'⟩
    · exact Or.inl h1
    · exact Or.inr ⟨h1, h1'⟩
  · exact ⟨0, some (n, _), h4, Or.inr ⟨n, rfl, h1, h2, h3, rfl⟩, h5⟩
end Go.Proofs.YtlcjkbhcbiggcaaGreatDoor
