/- Between the trips: the mathematics. -/
import Derived.Test.YtjaheoccofcklaaDoorSL
import Derived.Test.YtjaheoccofcklaaDoorS0b
namespace Go.Proofs.YtjaheoccofcklaaDoor
open Go.RowKit
set_option maxRecDepth 100000

/-- What holds as long as all samples are from lo to hi. -/
structure Btw (p : Par) (lo hi : Int) (e : Est) (some : Bool) : Prop where
  may : May p e
  k : e.k = some
  s : some = true → 8 * lo ≤ e.s ∧ e.s ≤ 8 * hi + 7 ∧ 0 ≤ e.v ∧ e.v ≤ 4 * hi
theorem Btw.start {p : Par} (h : Ok p) (lo hi : Int) : Btw p lo hi (startF p) false :=
  ⟨start_may h, by unfold startF; rw [if_pos h], fun h => by cases h⟩
theorem Btw.exp {p : Par} {lo hi : Int} {e : Est} {b : Bool} (h : Btw p lo hi e b) : Btw p lo hi (expF p e) b := by
  obtain ⟨a, c, _, d⟩ := exp_form h.may
  exact ⟨exp_may h.may, d.trans h.k, fun hb => by rw [a, c]; exact h.s hb⟩
theorem Btw.samp {p : Par} {lo hi : Int} {e : Est} {b : Bool} (h : Btw p lo hi e b) (h0 : 1 ≤ lo) (h2 : hi ≤ 1048576) {x : Int} (hx0 : lo ≤ x) (hx1 : x ≤ hi) : Btw p lo hi (sampF p e x) true := by
  have ht : trip x = x := by unfold trip; omega
  have hp := samp_pos h.may x
  refine ⟨samp_may h.may x, by rw [hp], fun _ => ?_⟩
  rw [hp, ht]
  simp only
  have hs := h.s
  rw [← h.k] at hs
  unfold learnE
  split
  · rename_i hk
    have := hs hk
    simp only
    omega
  · simp only
    omega
theorem mod_trip {lo hi x : Int} (h1 : lo ≤ hi) (hx : 0 ≤ x) : x.tmod (hi - lo + 1) = x % (hi - lo + 1) ∧ lo ≤ lo + x % (hi - lo + 1) ∧ lo + x % (hi - lo + 1) ≤ hi := by
  have a := Int.emod_nonneg x (b := hi - lo + 1) (by omega)
  have b := Int.emod_lt_of_pos x (b := hi - lo + 1) (by omega)
  exact ⟨Int.tmod_eq_emod_of_nonneg hx, by omega, by omega⟩
end Go.Proofs.YtjaheoccofcklaaDoor
