/- RtoWaits. -/
import Derived.Test.YtjaheoccofcklabDoorR13
namespace Go.Proofs.YtjaheoccofcklabDoor
open Go.RowKit
set_option maxRecDepth 100000

set_option maxHeartbeats 2000000 in
theorem waits17_any (p : Par) (e : Est) (w : World) (hR : Rws w) :
    Calls Tryd.prog 3 #[paV p, esV e] w fun r w' => r = .returned (.bool true) ∧ Below w.heap.size w w' := by
  have hf := newBox2 w (paO p) (esO e)
  have hT := hR.next hf
  have hP : PB ((w.alloc (paO p)).alloc (esO e)) w.heap.size p := (PB.new w p).later (newBox _ _)
  have hE : EB ((w.alloc (paO p)).alloc (esO e)) (w.heap.size + 1) e := ⟨EBox.of (heap_new2 w _ _), by simp⟩
  go_enter Tryd.func3, Tryd.ntmps3
  go_wp2_with fail
  refine (known_any ((w.alloc (paO p)).alloc (esO e)) hT).mono ?_
  rintro r w1 ⟨he, hb⟩
  subst he
  have hP1 := hP.later hb
  have hF2 := frN hf hb
  have hT3 := hT.next hb
  have he4 := hE.later hb
  clear hP hf hT hE hb
  have hk := hP1.box
  obtain ⟨Pq0, Pq1, Pq2⟩ := hk
  have hk := he4.box
  obtain ⟨eq0, eq1, eq2, eq3, eq4, eq5, eq6, eq7, eq8, eq9⟩ := hk
  go_wp2_with fail
  clear Pq0 Pq1 Pq2 eq0 eq1 eq2 eq3 eq4 eq5 eq6 eq7 eq8 eq9
  refine (Wait_any p e _ hT3).mono ?_
  rintro r w2 ⟨he, hb⟩
  subst he
  have hP5 := hP1.later hb
  have hF6 := frN hF2 hb
  have hT7 := hT3.next hb
  have he8 := he4.later hb
  clear hP1 hF2 hT3 he4 hb
  have hk := hP5.box
  obtain ⟨Pq0, Pq1, Pq2⟩ := hk
  have hk := he8.box
  obtain ⟨eq0, eq1, eq2, eq3, eq4, eq5, eq6, eq7, eq8, eq9⟩ := hk
  go_wp2_with fail
  clear Pq0 Pq1 Pq2 eq0 eq1 eq2 eq3 eq4 eq5 eq6 eq7 eq8 eq9
  refine (dWait_any p e _).mono ?_
  rintro r w3 ⟨he, hb⟩
  subst he
  have hP9 := hP5.later hb
  have hF10 := frN hF6 hb
  have hT11 := hT7.next hb
  have he12 := he8.later hb
  clear hP5 hF6 hT7 he8 hb
  go_wp2
  go_ret
  exact ⟨rfl, hF10⟩
end Go.Proofs.YtjaheoccofcklabDoor
