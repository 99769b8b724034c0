/- learn. -/
import Derived.Test.YtjaheoccofcklabDoorR6
namespace Go.Proofs.YtjaheoccofcklabDoor
open Go.RowKit
set_option maxRecDepth 100000

/-- What a round trip of x ticks makes of the two averages. -/
def learnE (e : Est) (x : Int) : Est := if e.k then ⟨e.s + (x - e.s / 8), e.v + (max (x - e.s / 8) (e.s / 8 - x) - e.v / 4), e.r, e.n, true⟩ else ⟨8 * x, 2 * x, e.r, e.n, true⟩

set_option maxHeartbeats 2000000 in
theorem learn_any (e : Est) (x : Int) (w : World) (hs0 : 0 ≤ e.s) (hs1 : e.s ≤ 16777216) (hv0 : 0 ≤ e.v) (hv1 : e.v ≤ 16777216) (hx0 : 1 ≤ x) (hx1 : x ≤ 1048576) :
    Calls Tryd.prog 24 #[esV e, .int .i64 x] w fun r w' => r = .returned (esV (learnE e x)) ∧ Below w.heap.size w w' := by
  obtain ⟨s, v, r, n, k⟩ := e
  simp only at hs0 hs1 hv0 hv1
  go_enter Tryd.func24, Tryd.ntmps24
  cases k with
  | true =>
    have hq : s.tdiv 8 = s / 8 := Int.tdiv_eq_ediv_of_nonneg hs0
    have hq4 : v.tdiv 4 = v / 4 := Int.tdiv_eq_ediv_of_nonneg hv0
    go_wp2
    · refine bodyPost_ret (res_est rfl rfl (EBox.of (e := ⟨s + (x - s / 8), v + (s / 8 - x - v / 4), r, n, true⟩) (heap_new2 w _ _))) rfl ⟨?_, newBox2 w _ _⟩
      simp only [learnE, if_true, show max (x - s / 8) (s / 8 - x) = s / 8 - x from by omega]
    · refine bodyPost_ret (res_est rfl rfl (EBox.of (e := ⟨s + (x - s / 8), v + (x - s / 8 - v / 4), r, n, true⟩) (heap_new2 w _ _))) rfl ⟨?_, newBox2 w _ _⟩
      simp only [learnE, if_true, show max (x - s / 8) (s / 8 - x) = x - s / 8 from by omega]
  | false =>
    go_wp2
    refine bodyPost_ret (res_est rfl rfl (EBox.of (e := ⟨8 * x, 2 * x, r, n, true⟩) (heap_new2 w _ _))) rfl ⟨rfl, newBox2 w _ _⟩
end Go.Proofs.YtjaheoccofcklabDoor
