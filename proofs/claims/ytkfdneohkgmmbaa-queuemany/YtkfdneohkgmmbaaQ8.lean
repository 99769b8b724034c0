/- What every statement asks first: known, by its contract; num, bound. -/
import Derived.Test.YtkfdneohkgmmbaaQ7
namespace Go.Proofs.Ytkfdneohkgmmbaa
open Go.RowKit
set_option maxRecDepth 100000

theorem rep_get {E : Type} (n j : Nat) : (List.replicate n ([] : List E)).getD j [] = [] := by
  rw [List.getD_eq_getElem?_getD, List.getElem?_replicate]
  split <;> rfl
/-- What lay there at the start lies there, and is labelled 0. -/
structure Bk (w0 : World) (lab : Nat → Nat) (w : World) : Prop where
  b : Below w0.heap.size w0 w
  z : ∀ i, i < w0.heap.size → lab i = 0
theorem Bk.refl (w : World) : Bk w (fun _ => 0) w := ⟨Below.refl _ _, fun _ _ => rfl⟩
theorem Bk.step {w0 w w' : World} {lab : Nat → Nat} {k : Nat} (h : Bk w0 lab w) (t : Turns (fun i => lab i = k) w w') (hk : k ≠ 0) : Bk w0 (rl lab w k) w' :=
  ⟨h.b.trans ((t.mono (G := fun i => lab i = k ∧ w0.heap.size ≤ i) (fun i _ q => ⟨q, by
    rcases Nat.lt_or_ge i w0.heap.size with r | r
    · rw [h.z i r] at q; exact absurd q.symm hk
    · exact r⟩)).below (fun _ q => q.2) h.b.size), fun i hi => by rw [rl_old (Nat.lt_of_lt_of_le hi h.b.size)]; exact h.z i hi⟩
theorem Bk.below {w0 w w' : World} {lab : Nat → Nat} (h : Bk w0 lab w) (b : Below w.heap.size w w') (k : Nat) : Bk w0 (rl lab w k) w' :=
  ⟨h.b.trans (b.mono h.b.size), fun i hi => by rw [rl_old (Nat.lt_of_lt_of_le hi h.b.size)]; exact h.z i hi⟩
theorem Bk.drew {w0 w : World} {lab : Nat → Nat} (h : Bk w0 lab w) (m : Nat) : Bk w0 lab (w.drewN m) := ⟨⟨h.b.os, h.b.tape, h.b.output, h.b.size, h.b.block⟩, h.z⟩
theorem pushI {w : World} {lab : Nat → Nat} {k qb P nx : Nat} {L : List (List Int)} (hq : Qu KI w lab k qb P nx L) (c : Nat) (v : Int) (hc : c < L.length) (hl : L[c].length < P) :
    Calls Try.prog 12 #[.pointer (some ⟨qb, 0, none⟩), .int .i64 c, .int .i64 v] w fun e w' => e = .returned (.int .i64 0) ∧ Qu KI w' (rl lab w k) k qb P nx (L.set c (L[c] ++ [v])) ∧ Turns (fun i => lab i = k) w w' := by
  obtain ⟨wb, vs, h⟩ := hq; exact push_okI h c v hc hl
theorem pushFI {w : World} {lab : Nat → Nat} {k qb P nx : Nat} {L : List (List Int)} (hq : Qu KI w lab k qb P nx L) (c : Nat) (v : Int) (hc : c < L.length) (hl : L[c].length = P) :
    Calls Try.prog 12 #[.pointer (some ⟨qb, 0, none⟩), .int .i64 c, .int .i64 v] w fun e w' => e = .returned (.int .i64 141) ∧ ∃ m, w' = w.drewN m := by
  obtain ⟨wb, vs, h⟩ := hq; exact push_fullI h c v hc hl
theorem pushNI {w : World} {lab : Nat → Nat} {k qb P nx : Nat} {L : List (List Int)} (hq : Qu KI w lab k qb P nx L) (c : Int) (v : Int) (hc : c < 0 ∨ (L.length : Int) ≤ c) :
    Calls Try.prog 12 #[.pointer (some ⟨qb, 0, none⟩), .int .i64 c, .int .i64 v] w fun e w' => e = .returned (.int .i64 1) ∧ w' = w := by
  obtain ⟨wb, vs, h⟩ := hq; exact push_noI h c v hc
theorem num_any (x : Int) (w : World) : Calls Try.prog 14 #[.int .i64 x] w fun e w' => e = .returned (.int .i64 x) ∧ w' = w := by
  go_enter Try.func14, Try.ntmps14
  go_wp2
  go_ret
  exact ⟨rfl, rfl⟩
/-- A number brought to 1 to m. -/
def bnd (x : Int) (m : Nat) : Nat := 1 + (x % m).toNat

set_option maxHeartbeats 2000000 in
theorem known_any (w : World) : Calls Try.prog 9 #[] w fun e w' => e = .returned (.bool true) ∧ Below w.heap.size w w' := by
  go_enter Try.func9, Try.ntmps9
  go_wp2_with fail
  refine (new_okI 3 2 w (fun _ => 0) 1 (by decide) (by decide) (by decide) (by decide)).mono ?_
  rintro e w1 ⟨qb, rfl, q1, b1⟩
  have B1 := (Bk.refl w).below b1 1
  replace q1 : Qu KI w1 (rl (fun _ => 0) w 1) 1 qb 2 0 [[], [], []] := q1
  generalize rl (fun _ => 0) w 1 = l1 at q1 B1
  go_wp2_with fail
  refine (pushI q1 1 7 (by decide) (by decide)).mono ?_
  rintro e w2 ⟨rfl, q2, t2⟩
  have B2 := B1.step t2 (by decide)
  replace q2 : Qu KI w2 (rl l1 w1 1) 1 qb 2 0 [[], [7], []] := q2
  generalize rl l1 w1 1 = l2 at q2 B2
  clear q1 B1 t2
  go_wp2_with fail
  refine (pushI q2 1 8 (by decide) (by decide)).mono ?_
  rintro e w3 ⟨rfl, q3, t3⟩
  have B3 := B2.step t3 (by decide)
  replace q3 : Qu KI w3 (rl l2 w2 1) 1 qb 2 0 [[], [7, 8], []] := q3
  generalize rl l2 w2 1 = l3 at q3 B3
  clear q2 B2 t3
  go_wp2_with fail
  refine (pushFI q3 1 9 (by decide) (by decide)).mono ?_
  rintro e w4 ⟨rfl, m4, rfl⟩
  have B4 := B3.drew m4
  have q4 := q3.drew m4
  obtain ⟨w4, hw4⟩ : ∃ x, w3.drewN m4 = x := ⟨_, rfl⟩
  rw [hw4] at q4 B4 ⊢
  clear q3 B3 hw4
  go_wp2_with fail
  refine (pushI q4 0 5 (by decide) (by decide)).mono ?_
  rintro e w5 ⟨rfl, q5, t5⟩
  have B5 := B4.step t5 (by decide)
  replace q5 : Qu KI w5 (rl l3 w4 1) 1 qb 2 0 [[5], [7, 8], []] := q5
  generalize rl l3 w4 1 = l5 at q5 B5
  clear q4 B4 t5
  go_wp2_with fail
  refine (pop_okI q5 0 0 (by decide) (by decide) (by decide) (by decide) 5 [] rfl).mono ?_
  rintro e w6 ⟨rfl, q6, t6⟩
  have B6 := B5.step t6 (by decide)
  replace q6 : Qu KI w6 (rl l5 w5 1) 1 qb 2 1 [[], [7, 8], []] := q6
  generalize rl l5 w5 1 = l6 at q6 B6
  clear q5 B5 t6
  go_wp2_with fail
  refine (pop_okI q6 0 1 (by decide) (by decide) (by decide) (by decide) 7 [8] rfl).mono ?_
  rintro e w7 ⟨rfl, q7, t7⟩
  have B7 := B6.step t7 (by decide)
  replace q7 : Qu KI w7 (rl l6 w6 1) 1 qb 2 2 [[], [8], []] := q7
  generalize rl l6 w6 1 = l7 at q7 B7
  clear q6 B6 t7
  go_wp2_with fail
  refine (pop_okI q7 2 1 (by decide) (by decide) (by decide) (by decide) 8 [] rfl).mono ?_
  rintro e w8 ⟨rfl, q8, t8⟩
  have B8 := B7.step t8 (by decide)
  replace q8 : Qu KI w8 (rl l7 w7 1) 1 qb 2 2 [[], [], []] := q8
  generalize rl l7 w7 1 = l8 at q8 B8
  clear q7 B7 t8
  go_wp2_with fail
  refine (pop_noI q8 (by decide)).mono ?_
  rintro e w9 ⟨rfl, hw9⟩
  subst w9
  go_wp2_with (go_at_call 14; refine (num_any _ _).mono ?_; rintro e wn ⟨rfl, hwn⟩; subst wn)
  go_ret
  exact ⟨rfl, B8.b⟩
end Go.Proofs.Ytkfdneohkgmmbaa
