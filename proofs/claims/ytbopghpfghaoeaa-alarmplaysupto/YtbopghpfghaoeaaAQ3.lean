/- AlarmPlays, walked: at most 1048576 steps. -/
import Derived.Test.YtbopghpfghaoeaaAQ2
namespace Go.Proofs.Ytbopghpfghaoeaa
open Go.RowKit Go.Maps
set_option maxRecDepth 100000
attribute [local go_sem ↓] Go.wp_at_zero Go.wp_at_succ
set_option maxHeartbeats 8000000 in
theorem plays_any (ao : Option Addr) (n c : Nat) (es : List Oi) (w : World) (hn : n ≤ 1048576) (h : OLies w ao n es) :
    Calls Try.prog 6 #[.slice ao n c] w fun e w' => e = .returned (.bool true) ∧ Below w.heap.size w w' := by
  have HP : Hid (OLies w ao n es) := h
  have b0 : (n : Int) ≤ 1048576 := by omega
  clear h
  go_enter Try.func6, Try.ntmps6
  go_wp2_with fail
  refine (head_any w).mono ?_
  rintro e w1 ⟨rfl, b1⟩
  have B1 := (Bk.refl w).below b1 8
  generalize rl (fun _ => 0) w 8 = l1 at B1
  clear b1
  go_wp2_with fail
  refine (new_I w1 l1 1).mono ?_
  rintro e w2 ⟨a, rfl, q2, b2⟩
  have B2 := B1.below b2 1
  generalize rl l1 w1 1 = l2 at q2 B2
  clear B1 b2
  go_wp2_with fail
  refine (new_I w2 l2 2).mono ?_
  rintro e w3 ⟨b, rfl, q3, b3⟩
  have B3 := B2.below b3 2
  have p2 := q2.below b3 2
  generalize rl l2 w2 2 = l3 at p2 q3 B3
  clear B2 b3 q2
  go_wp2_with fail
  refine (dnew_I w3 l3 6).mono ?_
  rintro e w4 ⟨d, rfl, q4, b4⟩
  have B4 := B3.below b4 6
  have p3 := q3.below b4 6
  replace p2 := p2.below b4 6
  generalize rl l3 w3 6 = l4 at p2 p3 q4 B4
  clear B3 b4 q3
  go_wp2_with fail
  refine (dnew_I w4 l4 7).mono ?_
  rintro e w5 ⟨e1, rfl, q5, b5⟩
  have B5 := B4.below b5 7
  replace p3 := p3.below b5 7
  replace p2 := p2.below b5 7
  replace q4 := q4.below b5 7
  generalize rl l4 w4 7 = l5 at p2 p3 q4 q5 B5
  clear B4 b5
  obtain ⟨w6, hw6⟩ : ∃ V, w5.alloc (.cells #[.slice none 0 0, .slice none 0 0] 71) = V := ⟨_, rfl⟩
  have b6 : Below w5.heap.size w5 w6 := by rw [← hw6]; exact (Below.refl _ w5).alloc (Nat.le_refl _) _
  have T6 : EvN w w6 a b d e1 w5.heap.size 0 := ⟨rl l5 w5 5, [], [], [], 0, ⟨B5.below b6 5, ⟨p2.below b6 5, q4.below b6 5, by decide⟩, ⟨p3.below b6 5, q5.below b6 5, by decide⟩, .slice none 0 0, .slice none 0 0, ⟨by rw [← hw6]; exact heap_alloc_new _ _, World.ownsRow_nil _ _ _ _, World.ownsRow_nil _ _ _ _, rl_new (Nat.le_refl _), fun _ q => (by cases q), fun _ q => (by cases q), fun i e he => (by simp at he), by simp⟩⟩, by simp, by simp, by simp, by simp⟩
  clear B5 p2 p3 q4 q5 b6
  go_wp2_with fail
  go_loopw [3, 9] (fun v u wr => ∃ (i : Nat), i ≤ n ∧ v = .bool true ∧ u = .int .i64 i ∧ EvN w wr a b d e1 w5.heap.size i) (fun _ u _ => n + 1 - (intOf u).toNat)
  case atStart => exact ⟨0, Nat.zero_le _, rfl, rfl, T6⟩
  case round =>
    clear T6
    obtain ⟨i, hin, rfl, rfl, T⟩ := hrel
    by_cases hlt : i < n
    · obtain ⟨g, p, K, s, x, t, rfl, hx, x0, x1, x2, x3⟩ := HP.out.at i hlt
      have hgl := World.block_lt_of_cell? w _ x0
      have y0 := (T.bel.cell (p := ⟨g, p + i * 4, none⟩) hgl).trans x0
      have y1 := (T.bel.cell (p := ⟨g, p + i * 4 + 1, none⟩) hgl).trans x1
      have y2 := (T.bel.cell (p := ⟨g, p + i * 4 + 2, none⟩) hgl).trans x2
      have y3 := (T.bel.cell (p := ⟨g, p + i * 4 + 3, none⟩) hgl).trans x3
      have a1 : (i : Int) < n := by omega
      have a2 : (0 : Int) ≤ i := by omega
      obtain ⟨lab, Sa, Sb, ks, q, T, h1, h2, h3, h4⟩ := T
      have hi6 : i ≤ 1048576 := by omega
      cases s with
      | true =>
        by_cases k5 : K = 5
        · subst k5
          go_wp2_with (first
            | (go_at_call 34; refine (T.stepB h1 h2 hi6 _ true x t hx).mono ?_; rintro e' W1 ⟨v1, rfl, T1⟩; have u0 := (T1.bel.cell (p := ⟨g, p + i * 4, none⟩) hgl).trans x0)
            | (go_at_call 35; refine (T1.keep h3 (by omega) (by omega)).mono ?_; rintro e' W2 ⟨rfl, T2⟩)
            | (go_at_call 36; refine T2.whole.mono ?_; rintro e' W3 ⟨rfl, T3⟩))
          go_roundw
          case rel => exact ⟨i + 1, by omega, rfl, by go_num, T3⟩
          case measure => simp [intOf]; omega
        · have j5 : (K == 5) = false := by simpa using k5
          go_wp2_with (first
            | (go_at_call 34; refine (T.stepB h1 h2 hi6 _ true x t hx).mono ?_; rintro e' W1 ⟨v1, rfl, T1⟩; have u0 := (T1.bel.cell (p := ⟨g, p + i * 4, none⟩) hgl).trans x0; have T2 := T1.next h3 (by omega))
            | (go_at_call 36; refine T2.whole.mono ?_; rintro e' W3 ⟨rfl, T3⟩))
          go_roundw
          case rel => exact ⟨i + 1, by omega, rfl, by go_num, T3⟩
          case measure => simp [intOf]; omega
      | false =>
        by_cases k5 : K = 5
        · subst k5
          go_wp2_with (first
            | (go_at_call 34; refine (T.stepA h1 h2 hi6 _ false x t hx).mono ?_; rintro e' W1 ⟨v1, rfl, T1⟩; have u0 := (T1.bel.cell (p := ⟨g, p + i * 4, none⟩) hgl).trans x0)
            | (go_at_call 35; refine (T1.keep h3 (by omega) (by omega)).mono ?_; rintro e' W2 ⟨rfl, T2⟩)
            | (go_at_call 36; refine T2.whole.mono ?_; rintro e' W3 ⟨rfl, T3⟩))
          go_roundw
          case rel => exact ⟨i + 1, by omega, rfl, by go_num, T3⟩
          case measure => simp [intOf]; omega
        · have j5 : (K == 5) = false := by simpa using k5
          go_wp2_with (first
            | (go_at_call 34; refine (T.stepA h1 h2 hi6 _ false x t hx).mono ?_; rintro e' W1 ⟨v1, rfl, T1⟩; have u0 := (T1.bel.cell (p := ⟨g, p + i * 4, none⟩) hgl).trans x0; have T2 := T1.next h3 (by omega))
            | (go_at_call 36; refine T2.whole.mono ?_; rintro e' W3 ⟨rfl, T3⟩))
          go_roundw
          case rel => exact ⟨i + 1, by omega, rfl, by go_num, T3⟩
          case measure => simp [intOf]; omega
    · have a1 : ¬ ((i : Int) < n) := by omega
      obtain ⟨lab, Sa, Sb, ks, q, T, h1, h2, h3, h4⟩ := T
      go_wp2_with (first
        | (go_at_call 14; first | (refine (lenA_I T.A.A).mono ?_; rintro e' wn ⟨rfl, hwn⟩; subst wn) | (refine (lenA_I T.B.A).mono ?_; rintro e' wn ⟨rfl, hwn⟩; subst wn))
        | (go_at_call 33; first | (refine (dlen_I T.A.D).mono ?_; rintro e' wn ⟨rfl, hwn⟩; subst wn) | (refine (dlen_I T.B.D).mono ?_; rintro e' wn ⟨rfl, hwn⟩; subst wn)))
      go_ret
      exact ⟨rfl, T.bk.b⟩
end Go.Proofs.Ytbopghpfghaoeaa
