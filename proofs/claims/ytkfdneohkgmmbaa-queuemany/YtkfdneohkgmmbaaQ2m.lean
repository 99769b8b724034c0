/- The small calls of a queue of structs, and New, by their contracts. -/
import Derived.Test.YtkfdneohkgmmbaaQ1m
import Derived.Deep.OwnRows
import Derived.BigQuiet
import Derived.Deep.QuietTactic
namespace Go.Proofs.Ytkfdneohkgmmbaa
open Go.RowKit
set_option maxRecDepth 100000

/-- A queue of structs. -/
def KM : Kd (Int × Int × Int) := ⟨78, 41, 43, 3, fun v => [.int .i64 v.1, .int .i64 v.2.1, .int .i64 v.2.2], by decide, by decide, by decide⟩
theorem Try.infoSM : (Try.prog.info? 41).map (fun i => (i.zero, i.size, i.bytes)) = some (some (.slice none 0 0), 1, 24) := by kernel_rfl
theorem Try.infoEM : (Try.prog.info? 43).map (fun i => (i.zero, i.size, i.bytes)) = some (some (.agg #[.int .i64 0, .int .i64 0, .int .i64 0]), 3, 24) := by kernel_rfl
theorem behind_M {w : World} {lab : Nat → Nat} {k qb wb P nx : Nat} {vs : List Value} {L : List (List (Int × Int × Int))} (h : Qx KM w lab k qb wb P nx vs L) (c s : Nat) (hc : c < L.length) (hs : s ≤ L.length) :
    Calls Try.prog 41 #[.pointer (some ⟨qb, 0, none⟩), .int .i64 c, .int .i64 s] w fun e w' => e = .returned (.int .i64 ((c + s) % L.length : Nat)) ∧ w' = w := by
  have h2 := h.c2
  have hn := h.hn
  clear h
  obtain ⟨n, hN⟩ : ∃ n, L.length = n := ⟨_, rfl⟩
  rw [hN] at hc hs hn h2 ⊢
  have a1 : (c : Int) < n := by omega
  have a2 : (s : Int) ≤ n := by omega
  have a3 : (n : Int) ≤ 64 := by omega
  clear hN
  go_enter Try.func41, Try.ntmps41
  go_wp2
  go_ret
  exact ⟨by go_num, rfl⟩
theorem is_yesM {w : World} {lab : Nat → Nat} {k qb wb P nx : Nat} {vs : List Value} {L : List (List (Int × Int × Int))} (h : Qx KM w lab k qb wb P nx vs L) (c : Nat) (hc : c < L.length) :
    Calls Try.prog 39 #[.pointer (some ⟨qb, 0, none⟩), .int .i64 c] w fun e w' => e = .returned (.bool true) ∧ w' = w := by
  have h2 := h.c2
  have a1 : (c : Int) < L.length := by omega
  clear h
  go_enter Try.func39, Try.ntmps39
  go_wp2
  go_ret
  exact ⟨rfl, rfl⟩
theorem is_noM {w : World} {lab : Nat → Nat} {k qb wb P nx : Nat} {vs : List Value} {L : List (List (Int × Int × Int))} (h : Qx KM w lab k qb wb P nx vs L) (c : Int) (hc : c < 0 ∨ (L.length : Int) ≤ c) :
    Calls Try.prog 39 #[.pointer (some ⟨qb, 0, none⟩), .int .i64 c] w fun e w' => e = .returned (.bool false) ∧ w' = w := by
  have h2 := h.c2
  have hn := h.hn
  clear h
  by_cases h0 : c < 0
  · go_enter Try.func39, Try.ntmps39
    go_wp2
    go_ret
    exact ⟨rfl, rfl⟩
  · have a1 : ¬ c < L.length := by omega
    have a2 : 0 ≤ c := by omega
    clear hc h0
    go_enter Try.func39, Try.ntmps39
    go_wp2
    go_ret
    exact ⟨rfl, rfl⟩

set_option maxHeartbeats 400000 in
theorem new_noM (c p : Int) (w : World) (h : manyB c = false ∨ manyB p = false) :
    Calls Try.prog 23 #[.int .i64 c, .int .i64 p] w fun e w' => e = .returned (.pointer none) ∧ w' = w := by
  by_cases hc : manyB c = true
  · have hp : manyB p = false := by rcases h with h | h; · rw [hc] at h; cases h
                                    · exact h
    clear h
    go_enter Try.func23, Try.ntmps23
    go_wp2_with (go_at_call 28; refine (many_any _ _).mono ?_; rintro e wn ⟨rfl, hwn⟩; subst wn)
    go_ret
    exact ⟨rfl, rfl⟩
  · have hc : manyB c = false := by simpa using hc
    clear h
    go_enter Try.func23, Try.ntmps23
    go_wp2_with (go_at_call 28; refine (many_any _ _).mono ?_; rintro e wn ⟨rfl, hwn⟩; subst wn)
    go_ret
    exact ⟨rfl, rfl⟩
theorem Qx.madeM (w : World) (lab : Nat → Nat) (k n P : Nat) (hn : n ≤ 64) (h0 : 0 < n) (hP : P ≤ 64) (w' : World) (h1 : w'.heap[w.heap.size]? = some (.cells (List.replicate n (Value.slice none 0 0)).toArray 41)) (h2 : w'.heap[w.heap.size + 1]? = some (.cells #[.int .i64 P, .int .i64 0, .slice (some ⟨w.heap.size, 0, none⟩) n n] 78)) :
    Qx KM w' (rl lab w k) k (w.heap.size + 1) w.heap.size P 0 (List.replicate n (Value.slice none 0 0)) (List.replicate n []) :=
  ⟨by rw [List.length_replicate]; exact h2, h1, by simp, fun i h1 h2 => by simp only [List.getElem_replicate]; exact ⟨by simp, Or.inl ⟨rfl, rfl⟩⟩, fun i j h1 h2 b hij hi => (by simp [Value.ownBlock] at hi), rl_new (by omega), rl_new (Nat.le_refl _), fun i h1 b hi => (by simp [Value.ownBlock] at hi), fun i h2 => by simp, hP, by simpa using hn, by simpa using h0⟩
set_option maxHeartbeats 1000000 in
theorem new_okM (c p : Nat) (w : World) (lab : Nat → Nat) (k : Nat) (hc1 : 1 ≤ c) (hc2 : c ≤ 64) (hp1 : 1 ≤ p) (hp2 : p ≤ 64) :
    Calls Try.prog 23 #[.int .i64 c, .int .i64 p] w fun e w' => ∃ qb, e = .returned (.pointer (some ⟨qb, 0, none⟩)) ∧ Qu KM w' (rl lab w k) k qb p 0 (List.replicate c []) ∧ Below w.heap.size w w' := by
  have hc : manyB (c : Int) = true := by unfold manyB; simp; omega
  have hp : manyB (p : Int) = true := by unfold manyB; simp; omega
  have a1 : (c : Int) ≤ 64 := by omega
  have a2 : (0 : Int) ≤ c := by omega
  obtain ⟨i0, hi, hz0, hz1, hz2⟩ := info_parts Try.infoSM
  go_enter Try.func23, Try.ntmps23
  go_wp2_with (first
    | (go_at_call 28; refine (many_any _ _).mono ?_; rintro e wn ⟨rfl, hwn⟩; subst wn)
    | (at_make; (refine wpList_make_row _ rfl _ _ 76 rfl 41 i0 (.slice none 0 0) Try.underlying76 hi hz0 hz1 rfl _ _ c rfl rfl (by rw [hz2]; omega) (by omega) ?_)))
  go_ret
  refine ⟨w.heap.size + 1, by simp, ?_⟩
  have hb : Below w.heap.size w ((w.alloc (.cells (madeCells #[Value.slice none 0 0] c) 41)).alloc (.cells #[.int .i64 p, .int .i64 0, .slice (some ⟨w.heap.size, 0, none⟩) c c] 78)) := ((Below.refl _ w).alloc (Nat.le_refl _) _).alloc (by simp) _
  refine ⟨⟨w.heap.size, _, Qx.madeM w lab k c p hc2 hc1 hp2 _ ?_ ?_⟩, hb⟩
  · rw [Below.heap_alloc _ _ _ (by simp), heap_alloc_new, made_nil]
  · have := heap_alloc_new (w.alloc (.cells (madeCells #[Value.slice none 0 0] c) 41)) (.cells #[.int .i64 p, .int .i64 0, .slice (some ⟨w.heap.size, 0, none⟩) c c] 78)
    simpa using this
end Go.Proofs.Ytkfdneohkgmmbaa
