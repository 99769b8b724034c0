/- RtoExpires. -/
import Derived.Test.YtjaheoccofcklabDoorR13
namespace Go.Proofs.YtjaheoccofcklabDoor
open Go.RowKit
set_option maxRecDepth 100000

set_option maxHeartbeats 2000000 in
theorem expires17_any (p : Par) (e : Est) (w : World) (hR : Rws w) :
    Calls Tryd.prog 4 #[paV p, esV e] w fun r w' => r = .returned (.bool true) ∧ Below w.heap.size w w' := by
  have hf := newBox2 w (paO p) (esO e)
  have hT := hR.next hf
  have hP : PB ((w.alloc (paO p)).alloc (esO e)) w.heap.size p := (PB.new w p).later (newBox _ _)
  have hE : EB ((w.alloc (paO p)).alloc (esO e)) (w.heap.size + 1) e := ⟨EBox.of (heap_new2 w _ _), by simp⟩
  go_enter Tryd.func4, Tryd.ntmps4
  go_wp2_with fail
  refine (known_any ((w.alloc (paO p)).alloc (esO e)) hT).mono ?_
  rintro r w1 ⟨he, hb⟩
  subst he
  have hP1 := hP.later hb
  have hF2 := frN hf hb
  have hT3 := hT.next hb
  have he4 := hE.later hb
  clear hP hf hT hE hb
  have hk := hP1.box
  obtain ⟨Pq0, Pq1, Pq2⟩ := hk
  have hk := he4.box
  obtain ⟨eq0, eq1, eq2, eq3, eq4, eq5, eq6, eq7, eq8, eq9⟩ := hk
  go_wp2_with fail
  clear Pq0 Pq1 Pq2 eq0 eq1 eq2 eq3 eq4 eq5 eq6 eq7 eq8 eq9
  refine (Expire_any p e _ hT3).mono ?_
  rintro r w2 ⟨he, hb⟩
  subst he
  have hP5 := hP1.later hb
  have hF6 := frN hF2 hb
  have hT7 := hT3.next hb
  have he8 := he4.later hb
  clear hP1 hF2 hT3 he4 hb
  have hnE := EB.new w2 (expF p e)
  have hn := newBox w2 (esO (expF p e))
  have hP9 := hP5.later hn
  have hF10 := frN hF6 hn
  have hT11 := hT7.next hn
  have he12 := he8.later hn
  clear hP5 hF6 hT7 he8 hn
  have hE13 := hnE
  clear hnE
  have hk := hP9.box
  obtain ⟨Pq0, Pq1, Pq2⟩ := hk
  have hk := he12.box
  obtain ⟨eq0, eq1, eq2, eq3, eq4, eq5, eq6, eq7, eq8, eq9⟩ := hk
  go_wp2_with fail
  clear Pq0 Pq1 Pq2 eq0 eq1 eq2 eq3 eq4 eq5 eq6 eq7 eq8 eq9
  refine (dExpire_any p e _).mono ?_
  rintro r w3 ⟨he, hb⟩
  subst he
  have hP14 := hP9.later hb
  have hF15 := frN hF10 hb
  have hT16 := hT11.next hb
  have he17 := he12.later hb
  have ha18 := hE13.later hb
  clear hP9 hF10 hT11 he12 hE13 hb
  have hnE := EB.new w3 (expF p e)
  have hn := newBox w3 (esO (expF p e))
  have hP19 := hP14.later hn
  have hF20 := frN hF15 hn
  have hT21 := hT16.next hn
  have he22 := he17.later hn
  have ha23 := ha18.later hn
  clear hP14 hF15 hT16 he17 ha18 hn
  have hE24 := hnE
  clear hnE
  have hk := ha23.box
  obtain ⟨aq0, aq1, aq2, aq3, aq4, aq5, aq6, aq7, aq8, aq9⟩ := hk
  have hk := hE24.box
  obtain ⟨bq0, bq1, bq2, bq3, bq4, bq5, bq6, bq7, bq8, bq9⟩ := hk
  go_wp2_with fail
  clear aq0 aq1 aq2 aq3 aq4 aq5 aq6 aq7 aq8 aq9 bq0 bq1 bq2 bq3 bq4 bq5 bq6 bq7 bq8 bq9
  refine (same_any (expF p e) (expF p e) _).mono ?_
  rintro r w4 ⟨he, hb⟩
  rw [decide_eq_true rfl] at he
  subst he
  have hP25 := hP19.later hb
  have hF26 := frN hF20 hb
  have hT27 := hT21.next hb
  have he28 := he22.later hb
  have ha29 := ha23.later hb
  have hb30 := hE24.later hb
  clear hP19 hF20 hT21 he22 ha23 hE24 hb
  go_wp2
  go_ret
  exact ⟨rfl, hF26⟩
end Go.Proofs.YtjaheoccofcklabDoor
