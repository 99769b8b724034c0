/- What every statement asks first: head, by its contract. -/
import Derived.Test.YtbopghpfghaoeaaAB
namespace Go.Proofs.Ytbopghpfghaoeaa
open Go.RowKit Go.Maps
set_option maxRecDepth 100000

theorem okI {x : Int} (h : -9223372036854775808 ≤ x ∧ x ≤ 9223372036854775807) : KI.ok x := h
theorem cells_three (w : World) (x y z : Value) (t : TypeId) : ∀ j u, [x, y, z][j]? = some u → (w.alloc (.cells #[x, y, z] t)).cell? ((⟨w.heap.size, 0, none⟩ : Addr).add j) = some u := by
  intro j u hj
  match j, hj with
  | 0, hj => simp at hj; subst hj; simp [Addr.add]
  | 1, hj => simp at hj; subst hj; simp [Addr.add]
  | 2, hj => simp at hj; subst hj; simp [Addr.add]
set_option maxHeartbeats 4000000 in
theorem head_any (w : World) : Calls Try.prog 7 #[] w fun e w' => e = .returned (.bool true) ∧ Below w.heap.size w w' := by
  go_enter Try.func7, Try.ntmps7
  go_wp2_with fail
  refine (new_I w (fun _ => 0) 1).mono ?_
  rintro e w1 ⟨ab, rfl, q1, b1⟩
  have B1 := (Bk.refl w).below b1 1
  generalize rl (fun _ => 0) w 1 = l1 at q1 B1
  clear b1
  go_wp2_with fail
  refine (setA_I q1 1 1 (okI (by decide)) (by decide)).mono ?_
  rintro e w2 ⟨rfl, q2, t2⟩
  have B2 := B1.step t2 (by decide)
  replace q2 : AlI w2 (rl l1 w1 1) 1 ab [(1, 1)] := q2
  generalize rl l1 w1 1 = l2 at q2 B2
  clear q1 B1 t2
  go_wp2_with fail
  refine (cancelA_I q2 1 (okI (by decide))).mono ?_
  rintro e w3 ⟨rfl, q3, t3⟩
  have B3 := B2.step t3 (by decide)
  replace q3 : AlI w3 (rl l2 w2 1) 1 ab [] := q3
  generalize rl l2 w2 1 = l3 at q3 B3
  clear q2 B2 t3
  rw [show (atS [((1 : Int), (1 : Int))] 1).isSome = true by rfl]
  go_wp2_with (go_at_call 14; refine (lenA_I q3).mono ?_; rintro e wn ⟨rfl, hwn⟩; subst wn)
  refine (setA_I q3 7 20 (okI (by decide)) (by decide)).mono ?_
  rintro e w4 ⟨rfl, q4, t4⟩
  have B4 := B3.step t4 (by decide)
  replace q4 : AlI w4 (rl l3 w3 1) 1 ab [(7, 20)] := q4
  generalize rl l3 w3 1 = l4 at q4 B4
  clear q3 B3 t4
  go_wp2_with fail
  refine (setA_I q4 5 10 (okI (by decide)) (by decide)).mono ?_
  rintro e w5 ⟨rfl, q5, t5⟩
  have B5 := B4.step t5 (by decide)
  replace q5 : AlI w5 (rl l4 w4 1) 1 ab [(5, 10), (7, 20)] := q5
  generalize rl l4 w4 1 = l5 at q5 B5
  clear q4 B4 t5
  go_wp2_with fail
  refine (setA_I q5 9 10 (okI (by decide)) (by decide)).mono ?_
  rintro e w6 ⟨rfl, q6, t6⟩
  have B6 := B5.step t6 (by decide)
  replace q6 : AlI w6 (rl l5 w5 1) 1 ab [(5, 10), (9, 10), (7, 20)] := q6
  generalize rl l5 w5 1 = l6 at q6 B6
  clear q5 B5 t6
  go_wp2_with fail
  refine (setA_I q6 7 10 (okI (by decide)) (by decide)).mono ?_
  rintro e w7 ⟨rfl, q7, t7⟩
  have B7 := B6.step t7 (by decide)
  replace q7 : AlI w7 (rl l6 w6 1) 1 ab [(5, 10), (7, 10), (9, 10)] := q7
  generalize rl l6 w6 1 = l7 at q7 B7
  clear q6 B6 t7
  go_wp2_with fail
  refine (nextC_I q7).mono ?_
  rintro e w8 ⟨rfl, b8⟩
  have B8 := B7.below b8 1
  have q8 := q7.below b8 1
  generalize rl l7 w7 1 = l8 at q8 B8
  clear q7 B7 b8
  go_wp2_with fail
  refine (dueA_I q8 9 2).mono ?_
  rintro e w9 ⟨v9, rfl, l9, o9, _, q9, hl9, t9⟩
  have B9 := B8.to t9 (by decide) hl9
  replace q9 : AlI w9 l9 1 ab [(5, 10), (7, 10), (9, 10)] := q9
  obtain ⟨a9, c9, hv9⟩ := own_slice o9
  replace hv9 : v9 = .slice a9 0 c9 := hv9
  subst hv9
  clear q8 B8 t9 hl9 o9
  go_wp2_with fail
  refine (dueA_I q9 10 2).mono ?_
  rintro e w10 ⟨v10, rfl, l10, o10, _, q10, hl10, t10⟩
  have B10 := B9.to t10 (by decide) hl10
  replace q10 : AlI w10 l10 1 ab [] := q10
  replace o10 : w10.ownsRow 0 3 1 v10 3 ([5, 7, 9].map (Value.int .i64)) := o10
  obtain ⟨a10, c10, hv10, L10⟩ := Li.row o10
  subst hv10
  clear q9 B9 t10 hl10 o10
  have b11 : Below w10.heap.size w10 (w10.alloc (.cells #[.int .i64 5, .int .i64 7, .int .i64 9] 3)) := (Below.refl _ w10).alloc (Nat.le_refl _) _
  have L11 := L10.below b11 (Nat.le_refl _)
  have M11 : Li (w10.alloc (.cells #[.int .i64 5, .int .i64 7, .int .i64 9] 3)) (some ⟨w10.heap.size, 0, none⟩) 3 3 [5, 7, 9] := ⟨rfl, Nat.le_refl _, (fun h => by cases h), fun ad had t u hu => by
    obtain rfl := Option.some.inj had
    exact cells_three _ _ _ _ _ t u hu⟩
  have q11 := q10.below b11 1
  have B11 := B10.below b11 1
  clear L10 q10 B10 b11
  go_wp2_with (first
    | (go_at_call 37; refine (sameI_any _ _ 3 3 _ _ _ _ _ (by decide) L11 M11).mono ?_; rintro e wS ⟨rfl, m, rfl⟩; have q12 := q11.drew m)
    | (go_at_call 14; refine (lenA_I q12).mono ?_; rintro e wn ⟨rfl, hwn⟩; subst wn))
  go_ret
  exact ⟨by simp, (B11.drew m).b⟩
end Go.Proofs.Ytbopghpfghaoeaa
