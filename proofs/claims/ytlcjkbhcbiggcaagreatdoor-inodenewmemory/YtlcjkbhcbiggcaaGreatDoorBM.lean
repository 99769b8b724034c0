/- A step of the book, told whole. -/
import Derived.Test.YtlcjkbhcbiggcaaGreatDoorBL
namespace Go.Proofs.YtlcjkbhcbiggcaaGreatDoor
open Go.RowKit Go.Maps
set_option maxRecDepth 100000

theorem Sk.done {w0 w w1 w' : World} {wb N kb : Nat} {c : Kc} {i : Nat} {ks : List Nat} {m : Nat} {T : Nat → Rec} {L : List Ino} {G : List Int} {F : Nat → Prop} {v : Nat → List Int} {lv gv : Value} (h : Sk w0 w wb N kb c i ks m T L G F v lv gv)
    {o : Option (Nat × Rec)} {F1 : Nat → Prop} {v1 : Nat → List Int} (s1 : St w0 w1 wb N c i F1 v1 (keyO ks o) (m + 1) (updT T o)) (nF1 : ∀ b, boS kb lv gv b → ¬ F1 b) (t1 : Turns F w w1) (f1 : ∀ b, F1 b → F b ∨ w.heap.size ≤ b)
    {L' : List Ino} {G' : List Int} {lv' gv' : Value} (bo : Bo w' w0.heap.size kb lv' gv' L' G') (t : Turns (boS kb lv gv) w1 w') (hS : ∀ b, boS kb lv' gv' b → boS kb lv gv b ∨ w1.heap.size ≤ b) (hK : Bok N (updT T o) L' G') (hG : G'.length ≤ G.length + 1)
    (hO : ∀ n r, o = some (n, r) → n < N ∧ ((T n).kind ≠ 0 ∨ (G'.length = G.length + 1 ∧ ∀ j, j < n → (T j).kind ≠ 0))) : SkR w0 w w' wb N kb c i ks m T G F lv gv := by
  have z1 := t1.size
  have hb1 : w0.heap.size ≤ w1.heap.size := by have := h.bo.lt (Or.inl rfl); omega
  refine ⟨o, L', G', F1, v1, lv', gv', ⟨s1.keep t (fun b hb q => nF1 b q hb) h.nW (t.below (fun b q => (h.bo.lt q).1) hb1), bo, fun b hb q => ?_, hK⟩, (t1.mono (fun _ _ q => Or.inl q)).trans t (fun _ _ q => Or.inr q), fun b hb => ?_, hG, hO⟩
  · rcases hS b hb with r | r
    · exact nF1 b r q
    · have := s1.tv.lt b q
      omega
  · rcases hb with q | q
    · rcases f1 b q with r | r
      · exact Or.inl (Or.inl r)
      · exact Or.inr r
    · rcases hS b q with r | r
      · exact Or.inl (Or.inr r)
      · right; omega
theorem Sk.grew {w0 w w1 w4 w5 w7 : World} {wb N kb : Nat} {c : Kc} {i : Nat} {ks : List Nat} {m : Nat} {T : Nat → Rec} {L : List Ino} {G : List Int} {F : Nat → Prop} {v : Nat → List Int} {lv gv : Value} (h : Sk w0 w wb N kb c i ks m T L G F v lv gv)
    {o : Option (Nat × Rec)} {F1 : Nat → Prop} {v1 : Nat → List Int} (s1 : St w0 w1 wb N c i F1 v1 (keyO ks o) (m + 1) (updT T o)) (nF1 : ∀ b, boS kb lv gv b → ¬ F1 b) (t1 : Turns F w w1) (f1 : ∀ b, F1 b → F b ∨ w.heap.size ≤ b)
    (b14 : Below w1.heap.size w1 w4) (bo3 : Bo w4 w0.heap.size kb lv gv L G) {x : Ino} {id : Int} {g5 c5 g7 c7 : Nat} (t5 : Turns (fun b => lv.ownBlock = some b) w4 w5) (o5 : w5.ownsRow w0.heap.size 38 13 (.slice (some ⟨g5, 0, none⟩) (L.length + 1) c5) (L.length + 1) (inLs L ++ (inA x).toList)) (hg5 : lv.ownBlock = some g5 ∨ w4.heap.size ≤ g5)
    (t7 : Turns (fun b => gv.ownBlock = some b) (w5.setCell ⟨kb, 0, none⟩ (.slice (some ⟨g5, 0, none⟩) (L.length + 1) c5)) w7) (o7 : w7.ownsRow w0.heap.size 3 1 (.slice (some ⟨g7, 0, none⟩) (G.length + 1) c7) (G.length + 1) (G.map (Value.int .i64) ++ [.int .i64 id])) (hg7 : gv.ownBlock = some g7 ∨ w4.heap.size ≤ g7)
    (hK : Bok N (updT T o) (L ++ [x]) (G ++ [id])) (hO : ∀ n r, o = some (n, r) → n < N ∧ ((T n).kind ≠ 0 ∨ ((G ++ [id]).length = G.length + 1 ∧ ∀ j, j < n → (T j).kind ≠ 0))) :
    SkR w0 w (w7.setCell ⟨kb, 1, none⟩ (.slice (some ⟨g7, 0, none⟩) (G.length + 1) c7)) wb N kb c i ks m T G F lv gv := by
  have bo6 : Bo (w5.setCell ⟨kb, 0, none⟩ (.slice (some ⟨g5, 0, none⟩) (L.length + 1) c5)) w0.heap.size kb (.slice (some ⟨g5, 0, none⟩) (L.length + 1) c5) gv (L ++ [x]) G := bo3.setL t5 (fun _ q => q) (by rw [List.length_append, inLs_snoc]; exact o5)
  have t6 := bo3.turnsL (lv5 := .slice (some ⟨g5, 0, none⟩) (L.length + 1) c5) t5 0
  have bo8 := bo6.setG t7 (fun _ q => q) (G5 := G ++ [id]) (gv5 := .slice (some ⟨g7, 0, none⟩) (G.length + 1) c7) (by rw [List.length_append, List.map_append]; exact o7)
  have t8 := bo6.turnsG (gv5 := .slice (some ⟨g7, 0, none⟩) (G.length + 1) c7) t7 1
  have z4 := b14.size
  refine h.done s1 nF1 t1 f1 bo8 (((Below.turns b14 (boS kb lv gv)).trans t6 (fun _ _ q => q)).trans t8 (fun b hb q => ?_)) (fun b hb => ?_) hK (by simp) hO
  · rcases q with q | q | q
    · exact Or.inl q
    · cases (show some g5 = some b from q)
      rcases hg5 with r | r
      · exact Or.inr (Or.inl r)
      · omega
    · exact Or.inr (Or.inr q)
  · rcases hb with q | q | q
    · exact Or.inl (Or.inl q)
    · cases (show some g5 = some b from q)
      rcases hg5 with r | r
      · exact Or.inl (Or.inr (Or.inl r))
      · right; omega
    · cases (show some g7 = some b from q)
      rcases hg7 with r | r
      · exact Or.inl (Or.inr (Or.inr r))
      · right; omega
end Go.Proofs.YtlcjkbhcbiggcaaGreatDoor
