/- RtoStarts. -/
import Derived.Test.YtjaheoccofcklaaDoorR12
namespace Go.Proofs.YtjaheoccofcklaaDoor
open Go.RowKit
set_option maxRecDepth 100000

set_option maxHeartbeats 2000000 in
theorem starts_any (p : Par) (w : World) (hR : Rws w) :
    Calls Tryd.prog 5 #[paV p] w fun r w' => r = .returned (.bool true) ∧ Below w.heap.size w w' := by
  have hP := PB.new w p
  have hf := newBox w (paO p)
  have hT := hR.next hf
  go_enter Tryd.func5, Tryd.ntmps5
  go_wp2_with fail
  refine (known_any (w.alloc (paO p)) hT).mono ?_
  rintro r w1 ⟨he, hb⟩
  subst he
  have hP1 := hP.later hb
  have hF2 := frN hf hb
  have hT3 := hT.next hb
  clear hP hf hT hb
  have hk := hP1.box
  obtain ⟨Pq0, Pq1, Pq2⟩ := hk
  go_wp2_with fail
  clear Pq0 Pq1 Pq2
  refine (Start_any p _ hT3).mono ?_
  rintro r w2 ⟨he, hb⟩
  subst he
  have hP4 := hP1.later hb
  have hF5 := frN hF2 hb
  have hT6 := hT3.next hb
  clear hP1 hF2 hT3 hb
  have hnE := EB.new w2 (startF p)
  have hn := newBox w2 (esO (startF p))
  have hP7 := hP4.later hn
  have hF8 := frN hF5 hn
  have hT9 := hT6.next hn
  clear hP4 hF5 hT6 hn
  have hE10 := hnE
  clear hnE
  have hk := hP7.box
  obtain ⟨Pq0, Pq1, Pq2⟩ := hk
  go_wp2_with fail
  clear Pq0 Pq1 Pq2
  refine (dStart_any p _).mono ?_
  rintro r w3 ⟨he, hb⟩
  subst he
  have hP11 := hP7.later hb
  have hF12 := frN hF8 hb
  have hT13 := hT9.next hb
  have ha14 := hE10.later hb
  clear hP7 hF8 hT9 hE10 hb
  have hnE := EB.new w3 (startF p)
  have hn := newBox w3 (esO (startF p))
  have hP15 := hP11.later hn
  have hF16 := frN hF12 hn
  have hT17 := hT13.next hn
  have ha18 := ha14.later hn
  clear hP11 hF12 hT13 ha14 hn
  have hE19 := hnE
  clear hnE
  have hk := ha18.box
  obtain ⟨aq0, aq1, aq2, aq3, aq4, aq5, aq6, aq7, aq8, aq9⟩ := hk
  have hk := hE19.box
  obtain ⟨bq0, bq1, bq2, bq3, bq4, bq5, bq6, bq7, bq8, bq9⟩ := hk
  go_wp2_with fail
  clear aq0 aq1 aq2 aq3 aq4 aq5 aq6 aq7 aq8 aq9 bq0 bq1 bq2 bq3 bq4 bq5 bq6 bq7 bq8 bq9
  refine (same_any (startF p) (startF p) _).mono ?_
  rintro r w4 ⟨he, hb⟩
  rw [decide_eq_true rfl] at he
  subst he
  have hP20 := hP15.later hb
  have hF21 := frN hF16 hb
  have hT22 := hT17.next hb
  have ha23 := ha18.later hb
  have hb24 := hE19.later hb
  clear hP15 hF16 hT17 ha18 hE19 hb
  go_wp2_with fail
  refine (num_any (startE p) _).mono ?_
  rintro r w5 ⟨he, hb⟩
  subst he
  have hP25 := hP20.later hb
  have hF26 := frN hF21 hb
  have hT27 := hT22.next hb
  have ha28 := ha23.later hb
  have hb29 := hb24.later hb
  clear hP20 hF21 hT22 ha23 hb24 hb
  go_wp2
  go_ret
  exact ⟨rfl, hF26⟩
end Go.Proofs.YtjaheoccofcklaaDoor
