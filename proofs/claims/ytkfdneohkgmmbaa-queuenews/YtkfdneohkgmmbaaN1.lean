/- QueueNews, walked whole. -/
import Derived.Test.YtkfdneohkgmmbaaQ8
namespace Go.Proofs.Ytkfdneohkgmmbaa
open Go.RowKit
set_option maxRecDepth 100000

set_option maxHeartbeats 2000000 in
theorem news_no (c p : Int) (w : World) (h : manyB c = false ∨ manyB p = false) :
    Calls Try.prog 3 #[.int .i64 c, .int .i64 p] w fun e w' => e = .returned (.bool true) ∧ Below w.heap.size w w' := by
  go_enter Try.func3, Try.ntmps3
  go_wp2_with fail
  refine (known_any w).mono ?_
  rintro e w1 ⟨rfl, b1⟩
  go_wp2_with fail
  refine (new_noI c p w1 h).mono ?_
  rintro e w2 ⟨rfl, hw2⟩
  subst w2
  unfold manyB at h
  simp at h
  by_cases h1 : 1 ≤ c
  · by_cases h2 : c ≤ 64
    · by_cases h3 : 1 ≤ p
      · have h4 : ¬ p ≤ 64 := by omega
        clear h
        go_wp2_with fail
        go_ret
        exact ⟨rfl, b1⟩
      · clear h
        go_wp2_with fail
        go_ret
        exact ⟨rfl, b1⟩
    · clear h
      go_wp2_with fail
      go_ret
      exact ⟨rfl, b1⟩
  · clear h
    go_wp2_with fail
    go_ret
    exact ⟨rfl, b1⟩
set_option maxHeartbeats 2000000 in
theorem news_ok (c p : Nat) (w : World) (h1 : 1 ≤ c) (h2 : c ≤ 64) (h3 : 1 ≤ p) (h4 : p ≤ 64) :
    Calls Try.prog 3 #[.int .i64 c, .int .i64 p] w fun e w' => e = .returned (.bool true) ∧ Below w.heap.size w w' := by
  have a1 : (1 : Int) ≤ c := by omega
  have a2 : (c : Int) ≤ 64 := by omega
  have a3 : (1 : Int) ≤ p := by omega
  have a4 : (p : Int) ≤ 64 := by omega
  go_enter Try.func3, Try.ntmps3
  go_wp2_with fail
  refine (known_any w).mono ?_
  rintro e w1 ⟨rfl, b1⟩
  go_wp2_with fail
  refine (new_okI c p w1 (rl (fun _ => 0) w 0) 1 h1 h2 h3 h4).mono ?_
  rintro e w2 ⟨qb, rfl, q2, b2⟩
  have B2 := ((Bk.refl w).below b1 0).below b2 1
  obtain ⟨l2, hl2⟩ : ∃ l2, rl (rl (fun _ => 0) w 0) w1 1 = l2 := ⟨_, rfl⟩
  rw [hl2] at q2 B2
  clear hl2 b1 b2
  go_wp2_with fail
  refine (pop_noI q2 (fun j _ => rep_get c j)).mono ?_
  rintro e w3 ⟨rfl, hw3⟩
  subst w3
  go_wp2_with fail
  refine (pushNI q2 c 1 (Or.inr (by simp))).mono ?_
  rintro e w3 ⟨rfl, hw3⟩
  subst w3
  go_wp2_with fail
  refine (pushNI q2 (-1) 1 (Or.inl (by decide))).mono ?_
  rintro e w3 ⟨rfl, hw3⟩
  subst w3
  obtain ⟨c, rfl⟩ : ∃ d, c = d + 1 := ⟨c - 1, by omega⟩
  go_wp2_with fail
  refine (pushI q2 c 1 (by simp) (by simp; omega)).mono ?_
  rintro e w3 ⟨rfl, q3, t3⟩
  have B3 := B2.step t3 (by decide)
  have ht : tot ((List.replicate (c + 1) []).set c ((List.replicate (c + 1) ([] : List Int))[c]'(by simp) ++ [1])) = 1 := by
    have : ∀ c : Nat, tot ((List.replicate (c + 1) ([] : List Int)).set c [1]) = 1 := by
      intro c
      induction c with
      | zero => rfl
      | succ c ih => rw [List.replicate_succ]; simpa [tot] using ih
    simpa using this c
  go_wp2_with fail
  refine (total_ok q3).mono ?_
  rw [ht]
  rintro e w4 ⟨rfl, hw4⟩
  subst w4
  go_wp2_with (go_at_call 14; refine (num_any _ _).mono ?_; rintro e wn ⟨rfl, hwn⟩; subst wn)
  go_ret
  exact ⟨rfl, B3.b⟩
theorem news_any (c p : Int) (w : World) (_ : -9223372036854775808 ≤ c ∧ c ≤ 9223372036854775807) (_ : -9223372036854775808 ≤ p ∧ p ≤ 9223372036854775807) : Calls Try.prog 3 #[.int .i64 c, .int .i64 p] w fun e w' => e = .returned (.bool true) ∧ Below w.heap.size w w' := by
  by_cases h : manyB c = true ∧ manyB p = true
  · obtain ⟨h1, h2⟩ := h
    simp [manyB] at h1 h2
    obtain ⟨c, rfl⟩ := Int.eq_ofNat_of_zero_le (show 0 ≤ c by omega)
    obtain ⟨p, rfl⟩ := Int.eq_ofNat_of_zero_le (show 0 ≤ p by omega)
    exact news_ok c p w (by omega) (by omega) (by omega) (by omega)
  · refine news_no c p w ?_
    by_cases h1 : manyB c = true
    · right; simpa using fun h2 => h ⟨h1, h2⟩
    · left; simpa using h1
end Go.Proofs.Ytkfdneohkgmmbaa
