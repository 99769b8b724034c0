/- The document's Right and Fits, the statements' right and may, SameEst. -/
import Derived.Test.YtjaheoccofcklabDoorR9s
namespace Go.Proofs.YtjaheoccofcklabDoor
open Go.RowKit
set_option maxRecDepth 100000

set_option maxHeartbeats 1000000 in
theorem dRight_any (p : Par) (w : World) :
    Calls Tryd.prog 23 #[paV p] w fun r w' => r = .returned (.bool (decide (Ok p))) ∧ Below w.heap.size w w' := by
  have hb := newBox w (paO p)
  go_enter Tryd.func23, Tryd.ntmps23
  by_cases h0 : 1 ≤ p.mi
  · have d0 : decide (1 ≤ p.mi) = true := decide_eq_true h0
    by_cases h1 : p.mi ≤ p.fi
    · have d1 : decide (p.mi ≤ p.fi) = true := decide_eq_true h1
      by_cases h2 : p.fi ≤ p.ma
      · have d2 : decide (p.fi ≤ p.ma) = true := decide_eq_true h2
        by_cases h3 : p.ma ≤ 1048576
        · have d3 : decide (p.ma ≤ 1048576) = true := decide_eq_true h3
          rw [show decide (Ok p) = true from decide_eq_true ⟨h0, h1, h2, h3⟩]
          go_wp2
          go_ret
          exact ⟨rfl, hb⟩
        · have d3 : decide (p.ma ≤ 1048576) = false := decide_eq_false h3
          rw [show decide (Ok p) = false from decide_eq_false (fun h => h3 h.2.2.2)]
          go_wp2
          go_ret
          exact ⟨rfl, hb⟩
      · have d2 : decide (p.fi ≤ p.ma) = false := decide_eq_false h2
        rw [show decide (Ok p) = false from decide_eq_false (fun h => h2 h.2.2.1)]
        go_wp2
        go_ret
        exact ⟨rfl, hb⟩
    · have d1 : decide (p.mi ≤ p.fi) = false := decide_eq_false h1
      rw [show decide (Ok p) = false from decide_eq_false (fun h => h1 h.2.1)]
      go_wp2
      go_ret
      exact ⟨rfl, hb⟩
  · have d0 : decide (1 ≤ p.mi) = false := decide_eq_false h0
    rw [show decide (Ok p) = false from decide_eq_false (fun h => h0 h.1)]
    go_wp2
    go_ret
    exact ⟨rfl, hb⟩

set_option maxHeartbeats 4000000 in
theorem dFits_any (p : Par) (e : Est) (w : World) :
    Calls Tryd.prog 20 #[paV p, esV e] w fun r w' => r = .returned (.bool (decide (May p e))) ∧ Below w.heap.size w w' := by
  obtain ⟨B, hB⟩ : ∃ B, decide (May p e) = B := ⟨_, rfl⟩
  rw [hB]
  have HB := Hid.mk hB
  clear hB
  have hp := PBox.of (heap_new1 w (paO p) (esO e))
  have he := EBox.of (heap_new2 w (paO p) (esO e))
  have hb := newBox2 w (paO p) (esO e)
  have hs : w.heap.size + 1 < ((w.alloc (paO p)).alloc (esO e)).heap.size := by simp
  go_enter Tryd.func20, Tryd.ntmps20
  go_wp2_with fail
  refine (dRight_any p ((w.alloc (paO p)).alloc (esO e))).mono ?_
  rintro r w1 ⟨rfl, hb1⟩
  obtain ⟨p0, p1, p2⟩ := hp.later hb1 (by omega)
  obtain ⟨e0, e1, e2, e3, e4, _, _, _, _, _⟩ := he.later hb1 hs
  have hq := hb.trans (hb1.mono hb.size)
  clear hb hb1 hs hp he
  rcases (Decidable.em (Ok p)).symm with ho | ho
  · obtain rfl : B = false := by rw [← HB.out]; exact decide_eq_false (fun h => ho h.1)
    rw [decide_eq_false ho]
    clear HB
    go_wp2
    go_ret
    exact ⟨rfl, hq⟩
  rw [decide_eq_true ho]
  by_cases h0 : e.s < 0
  · have d0 : decide (e.s < 0) = true := decide_eq_true h0
    obtain rfl : B = false := by rw [← HB.out]; exact decide_eq_false (fun h => by have := h.2.1; omega)
    clear HB
    go_wp2
    go_ret
    exact ⟨rfl, hq⟩
  · have d0 : decide (e.s < 0) = false := decide_eq_false h0
    by_cases h1 : 16777216 < e.s
    · have d1 : decide (16777216 < e.s) = true := decide_eq_true h1
      obtain rfl : B = false := by rw [← HB.out]; exact decide_eq_false (fun h => by have := h.2.2.1; omega)
      clear HB
      go_wp2
      go_ret
      exact ⟨rfl, hq⟩
    · have d1 : decide (16777216 < e.s) = false := decide_eq_false h1
      by_cases h2 : e.v < 0
      · have d2 : decide (e.v < 0) = true := decide_eq_true h2
        obtain rfl : B = false := by rw [← HB.out]; exact decide_eq_false (fun h => by have := h.2.2.2.1; omega)
        clear HB
        go_wp2
        go_ret
        exact ⟨rfl, hq⟩
      · have d2 : decide (e.v < 0) = false := decide_eq_false h2
        by_cases h3 : 16777216 < e.v
        · have d3 : decide (16777216 < e.v) = true := decide_eq_true h3
          obtain rfl : B = false := by rw [← HB.out]; exact decide_eq_false (fun h => by have := h.2.2.2.2.1; omega)
          clear HB
          go_wp2
          go_ret
          exact ⟨rfl, hq⟩
        · have d3 : decide (16777216 < e.v) = false := decide_eq_false h3
          by_cases h4 : e.r < p.mi
          · have d4 : decide (e.r < p.mi) = true := decide_eq_true h4
            obtain rfl : B = false := by rw [← HB.out]; exact decide_eq_false (fun h => by have := h.2.2.2.2.2.1; omega)
            clear HB
            go_wp2
            go_ret
            exact ⟨rfl, hq⟩
          · have d4 : decide (e.r < p.mi) = false := decide_eq_false h4
            by_cases h5 : p.ma < e.r
            · have d5 : decide (p.ma < e.r) = true := decide_eq_true h5
              obtain rfl : B = false := by rw [← HB.out]; exact decide_eq_false (fun h => by have := h.2.2.2.2.2.2.1; omega)
              clear HB
              go_wp2
              go_ret
              exact ⟨rfl, hq⟩
            · have d5 : decide (p.ma < e.r) = false := decide_eq_false h5
              by_cases h6 : e.n < 0
              · have d6 : decide (e.n < 0) = true := decide_eq_true h6
                obtain rfl : B = false := by rw [← HB.out]; exact decide_eq_false (fun h => by have := h.2.2.2.2.2.2.2.1; omega)
                clear HB
                go_wp2
                go_ret
                exact ⟨rfl, hq⟩
              · have d6 : decide (e.n < 0) = false := decide_eq_false h6
                by_cases h7 : 20 < e.n
                · have d7 : decide (20 < e.n) = true := decide_eq_true h7
                  obtain rfl : B = false := by rw [← HB.out]; exact decide_eq_false (fun h => by have := h.2.2.2.2.2.2.2.2.1; omega)
                  clear HB
                  go_wp2
                  go_ret
                  exact ⟨rfl, hq⟩
                · have d7 : decide (20 < e.n) = false := decide_eq_false h7
                  obtain ⟨es, ev, er, en, ek⟩ := e
                  simp only at *
                  cases ek with
                  | true =>
                    obtain rfl : B = true := by rw [← HB.out]; exact decide_eq_true ⟨ho, by first | omega | (dsimp only; omega), by first | omega | (dsimp only; omega), by first | omega | (dsimp only; omega), by first | omega | (dsimp only; omega), by first | omega | (dsimp only; omega), by first | omega | (dsimp only; omega), by first | omega | (dsimp only; omega), by first | omega | (dsimp only; omega), Or.inl rfl⟩
                    clear HB
                    go_wp2
                    go_ret
                    exact ⟨rfl, hq⟩
                  | false =>
                    by_cases z0 : es = 0
                    · subst z0
                      by_cases z1 : ev = 0
                      · subst z1
                        obtain rfl : B = true := by rw [← HB.out]; exact decide_eq_true ⟨ho, by first | omega | (dsimp only; omega), by first | omega | (dsimp only; omega), by first | omega | (dsimp only; omega), by first | omega | (dsimp only; omega), by first | omega | (dsimp only; omega), by first | omega | (dsimp only; omega), by first | omega | (dsimp only; omega), by first | omega | (dsimp only; omega), Or.inr ⟨rfl, rfl⟩⟩
                        clear HB
                        go_wp2
                        go_ret
                        exact ⟨rfl, hq⟩
                      · have z1' : (ev == 0) = false := by simpa using z1
                        obtain rfl : B = false := by rw [← HB.out]; exact decide_eq_false (fun h => h.2.2.2.2.2.2.2.2.2.elim (fun h => by cases h) (fun h => z1 h.2))
                        clear HB
                        go_wp2
                        go_ret
                        exact ⟨rfl, hq⟩
                    · have z0' : (es == 0) = false := by simpa using z0
                      obtain rfl : B = false := by rw [← HB.out]; exact decide_eq_false (fun h => h.2.2.2.2.2.2.2.2.2.elim (fun h => by cases h) (fun h => z0 h.1))
                      clear HB
                      go_wp2
                      go_ret
                      exact ⟨rfl, hq⟩

instance : DecidableEq Est := fun a b => decidable_of_iff (a.s = b.s ∧ a.v = b.v ∧ a.r = b.r ∧ a.n = b.n ∧ a.k = b.k)
  ⟨fun ⟨h0, h1, h2, h3, h4⟩ => Est.ext h0 h1 h2 h3 h4, fun h => by subst h; exact ⟨rfl, rfl, rfl, rfl, rfl⟩⟩

set_option maxHeartbeats 2000000 in
theorem same_any (a b : Est) (w : World) :
    Calls Tryd.prog 11 #[esV a, esV b] w fun r w' => r = .returned (.bool (decide (a = b))) ∧ Below w.heap.size w w' := by
  obtain ⟨s, v, r, n, k⟩ := a
  obtain ⟨s', v', r', n', k'⟩ := b
  go_enter Tryd.func11, Tryd.ntmps11
  by_cases h0 : s = s'
  · subst h0
    by_cases h1 : v = v'
    · subst h1
      by_cases h2 : r = r'
      · subst h2
        by_cases h3 : n = n'
        · subst h3
          by_cases h4 : k = k'
          · subst h4
            rw [show decide ((⟨s, v, r, n, k⟩ : Est) = ⟨s, v, r, n, k⟩) = true from decide_eq_true rfl]
            go_wp2
            go_ret
            exact ⟨rfl, newBox2 w _ _⟩
          · have d4 : (k == k') = false := by simpa using h4
            rw [show decide ((⟨s, v, r, n, k⟩ : Est) = ⟨s, v, r, n, k'⟩) = false from decide_eq_false (fun h => h4 (by injection h))]
            go_wp2
            go_ret
            exact ⟨rfl, newBox2 w _ _⟩
        · have d3 : (n == n') = false := by simpa using h3
          rw [show decide ((⟨s, v, r, n, k⟩ : Est) = ⟨s, v, r, n', k'⟩) = false from decide_eq_false (fun h => h3 (by injection h))]
          go_wp2
          go_ret
          exact ⟨rfl, newBox2 w _ _⟩
      · have d2 : (r == r') = false := by simpa using h2
        rw [show decide ((⟨s, v, r, n, k⟩ : Est) = ⟨s, v, r', n', k'⟩) = false from decide_eq_false (fun h => h2 (by injection h))]
        go_wp2
        go_ret
        exact ⟨rfl, newBox2 w _ _⟩
    · have d1 : (v == v') = false := by simpa using h1
      rw [show decide ((⟨s, v, r, n, k⟩ : Est) = ⟨s, v', r', n', k'⟩) = false from decide_eq_false (fun h => h1 (by injection h))]
      go_wp2
      go_ret
      exact ⟨rfl, newBox2 w _ _⟩
  · have d0 : (s == s') = false := by simpa using h0
    rw [show decide ((⟨s, v, r, n, k⟩ : Est) = ⟨s', v', r', n', k'⟩) = false from decide_eq_false (fun h => h0 (by injection h))]
    go_wp2
    go_ret
    exact ⟨rfl, newBox2 w _ _⟩

end Go.Proofs.YtjaheoccofcklabDoor
