/- Boxes with their places; num; known. -/
import Derived.Test.YtjaheoccofcklabDoorR11
namespace Go.Proofs.YtjaheoccofcklabDoor
open Go.RowKit
set_option maxRecDepth 100000

/-- An estimate in a box that is there. -/
structure EB (w : World) (b : Nat) (e : Est) : Prop where
  box : EBox w b e
  lt : b < w.heap.size
/-- Params in a box that is there. -/
structure PB (w : World) (b : Nat) (p : Par) : Prop where
  box : PBox w b p
  lt : b < w.heap.size
theorem EB.later {w w' : World} {b : Nat} {e : Est} (h : EB w b e) (hb : Below w.heap.size w w') : EB w' b e := ⟨h.box.later hb h.lt, Nat.lt_of_lt_of_le h.lt hb.size⟩
theorem PB.later {w w' : World} {b : Nat} {p : Par} (h : PB w b p) (hb : Below w.heap.size w w') : PB w' b p := ⟨h.box.later hb h.lt, Nat.lt_of_lt_of_le h.lt hb.size⟩
theorem EB.new (w : World) (e : Est) : EB (w.alloc (esO e)) w.heap.size e := ⟨EBox.of (heap_alloc_last w _), by simp⟩
theorem PB.new (w : World) (p : Par) : PB (w.alloc (paO p)) w.heap.size p := ⟨PBox.of (heap_alloc_last w _), by simp⟩
theorem Rws.next {w w' : World} (h : Rws w) (hb : Below w.heap.size w w') : Rws w' := h.later hb (Nat.le_refl _)
theorem frN {w0 w w' : World} (h : Below w0.heap.size w0 w) (hb : Below w.heap.size w w') : Below w0.heap.size w0 w' := h.trans (hb.mono h.size)

theorem num_any (x : Int) (w : World) : Calls Tryd.prog 14 #[.int .i64 x] w fun r w' => r = .returned (.int .i64 x) ∧ Below w.heap.size w w' := by
  go_enter Tryd.func14, Tryd.ntmps14
  go_wp2
  go_ret
  exact ⟨rfl, Below.refl _ _⟩

theorem kn0 : startF ⟨2, 8, 64⟩ = ⟨0, 0, 8, 0, false⟩ := by decide
theorem kn1 : startE ⟨2, 8, 64⟩ = 0 := by decide
theorem kn2 : sampF ⟨2, 8, 64⟩ ⟨0, 0, 8, 0, false⟩ 5 = ⟨40, 10, 15, 0, true⟩ := by decide
theorem kn3 : sampF ⟨2, 8, 64⟩ ⟨40, 10, 15, 0, true⟩ 9 = ⟨44, 12, 17, 0, true⟩ := by decide
theorem kn4 : expF ⟨2, 8, 64⟩ ⟨44, 12, 17, 0, true⟩ = ⟨44, 12, 17, 1, true⟩ := by decide
theorem kn5 : waitF ⟨2, 8, 64⟩ ⟨44, 12, 17, 1, true⟩ = 34 := by decide

set_option maxHeartbeats 2000000 in
theorem known_any (w : World) (hR : Rws w) : Calls Tryd.prog 6 #[] w fun r w' => r = .returned (.bool true) ∧ Below w.heap.size w w' := by
  have hP := PB.new w ⟨2, 8, 64⟩
  have hf := newBox w (paO ⟨2, 8, 64⟩)
  have hT := hR.next hf
  go_enter Tryd.func6, Tryd.ntmps6
  go_wp2_with fail
  refine (Start_any ⟨2, 8, 64⟩ (w.alloc (paO ⟨2, 8, 64⟩)) hT).mono ?_
  rintro r w1 ⟨he, hb⟩
  rw [kn0, kn1] at he
  subst he
  have hP1 := hP.later hb
  have hF2 := frN hf hb
  have hT3 := hT.next hb
  clear hP hf hT hb
  have hnE := EB.new w1 ⟨0, 0, 8, 0, false⟩
  have hn := newBox w1 (esO ⟨0, 0, 8, 0, false⟩)
  have hP4 := hP1.later hn
  have hF5 := frN hF2 hn
  have hT6 := hT3.next hn
  clear hP1 hF2 hT3 hn
  have hE7 := hnE
  clear hnE
  have hk := hP4.box
  obtain ⟨Pq0, Pq1, Pq2⟩ := hk
  have hk := hE7.box
  obtain ⟨aq0, aq1, aq2, aq3, aq4, aq5, aq6, aq7, aq8, aq9⟩ := hk
  go_wp2_with fail
  clear Pq0 Pq1 Pq2 aq0 aq1 aq2 aq3 aq4 aq5 aq6 aq7 aq8 aq9
  refine (Sample_any ⟨2, 8, 64⟩ ⟨0, 0, 8, 0, false⟩ 5 _ hT6).mono ?_
  rintro r w2 ⟨he, hb⟩
  rw [kn2] at he
  subst he
  have hP8 := hP4.later hb
  have hF9 := frN hF5 hb
  have hT10 := hT6.next hb
  have ha11 := hE7.later hb
  clear hP4 hF5 hT6 hE7 hb
  have hnE := EB.new w2 ⟨40, 10, 15, 0, true⟩
  have hn := newBox w2 (esO ⟨40, 10, 15, 0, true⟩)
  have hP12 := hP8.later hn
  have hF13 := frN hF9 hn
  have hT14 := hT10.next hn
  have ha15 := ha11.later hn
  clear hP8 hF9 hT10 ha11 hn
  have hE16 := hnE
  clear hnE
  have hk := hP12.box
  obtain ⟨Pq0, Pq1, Pq2⟩ := hk
  have hk := hE16.box
  obtain ⟨bq0, bq1, bq2, bq3, bq4, bq5, bq6, bq7, bq8, bq9⟩ := hk
  go_wp2_with fail
  clear Pq0 Pq1 Pq2 bq0 bq1 bq2 bq3 bq4 bq5 bq6 bq7 bq8 bq9
  refine (Sample_any ⟨2, 8, 64⟩ ⟨40, 10, 15, 0, true⟩ 9 _ hT14).mono ?_
  rintro r w3 ⟨he, hb⟩
  rw [kn3] at he
  subst he
  have hP17 := hP12.later hb
  have hF18 := frN hF13 hb
  have hT19 := hT14.next hb
  have ha20 := ha15.later hb
  have hb21 := hE16.later hb
  clear hP12 hF13 hT14 ha15 hE16 hb
  have hnE := EB.new w3 ⟨44, 12, 17, 0, true⟩
  have hn := newBox w3 (esO ⟨44, 12, 17, 0, true⟩)
  have hP22 := hP17.later hn
  have hF23 := frN hF18 hn
  have hT24 := hT19.next hn
  have ha25 := ha20.later hn
  have hb26 := hb21.later hn
  clear hP17 hF18 hT19 ha20 hb21 hn
  have hE27 := hnE
  clear hnE
  have hk := hP22.box
  obtain ⟨Pq0, Pq1, Pq2⟩ := hk
  have hk := hE27.box
  obtain ⟨cq0, cq1, cq2, cq3, cq4, cq5, cq6, cq7, cq8, cq9⟩ := hk
  go_wp2_with fail
  clear Pq0 Pq1 Pq2 cq0 cq1 cq2 cq3 cq4 cq5 cq6 cq7 cq8 cq9
  refine (Expire_any ⟨2, 8, 64⟩ ⟨44, 12, 17, 0, true⟩ _ hT24).mono ?_
  rintro r w4 ⟨he, hb⟩
  rw [kn4] at he
  subst he
  have hP28 := hP22.later hb
  have hF29 := frN hF23 hb
  have hT30 := hT24.next hb
  have ha31 := ha25.later hb
  have hb32 := hb26.later hb
  have hc33 := hE27.later hb
  clear hP22 hF23 hT24 ha25 hb26 hE27 hb
  have hnE := EB.new w4 ⟨44, 12, 17, 1, true⟩
  have hn := newBox w4 (esO ⟨44, 12, 17, 1, true⟩)
  have hP34 := hP28.later hn
  have hF35 := frN hF29 hn
  have hT36 := hT30.next hn
  have ha37 := ha31.later hn
  have hb38 := hb32.later hn
  have hc39 := hc33.later hn
  clear hP28 hF29 hT30 ha31 hb32 hc33 hn
  have hE40 := hnE
  clear hnE
  have hk := ha37.box
  obtain ⟨aq0, aq1, aq2, aq3, aq4, aq5, aq6, aq7, aq8, aq9⟩ := hk
  go_wp2_with fail
  clear aq0 aq1 aq2 aq3 aq4 aq5 aq6 aq7 aq8 aq9
  refine (same_any ⟨0, 0, 8, 0, false⟩ ⟨0, 0, 8, 0, false⟩ _).mono ?_
  rintro r w5 ⟨he, hb⟩
  rw [decide_eq_true rfl] at he
  subst he
  have hP41 := hP34.later hb
  have hF42 := frN hF35 hb
  have hT43 := hT36.next hb
  have ha44 := ha37.later hb
  have hb45 := hb38.later hb
  have hc46 := hc39.later hb
  have hd47 := hE40.later hb
  clear hP34 hF35 hT36 ha37 hb38 hc39 hE40 hb
  have hk := hb45.box
  obtain ⟨bq0, bq1, bq2, bq3, bq4, bq5, bq6, bq7, bq8, bq9⟩ := hk
  go_wp2_with fail
  clear bq0 bq1 bq2 bq3 bq4 bq5 bq6 bq7 bq8 bq9
  refine (same_any ⟨40, 10, 15, 0, true⟩ ⟨40, 10, 15, 0, true⟩ _).mono ?_
  rintro r w6 ⟨he, hb⟩
  rw [decide_eq_true rfl] at he
  subst he
  have hP48 := hP41.later hb
  have hF49 := frN hF42 hb
  have hT50 := hT43.next hb
  have ha51 := ha44.later hb
  have hb52 := hb45.later hb
  have hc53 := hc46.later hb
  have hd54 := hd47.later hb
  clear hP41 hF42 hT43 ha44 hb45 hc46 hd47 hb
  have hk := hd54.box
  obtain ⟨dq0, dq1, dq2, dq3, dq4, dq5, dq6, dq7, dq8, dq9⟩ := hk
  go_wp2_with fail
  clear dq0 dq1 dq2 dq3 dq4 dq5 dq6 dq7 dq8 dq9
  refine (same_any ⟨44, 12, 17, 1, true⟩ ⟨44, 12, 17, 1, true⟩ _).mono ?_
  rintro r w7 ⟨he, hb⟩
  rw [decide_eq_true rfl] at he
  subst he
  have hP55 := hP48.later hb
  have hF56 := frN hF49 hb
  have hT57 := hT50.next hb
  have ha58 := ha51.later hb
  have hb59 := hb52.later hb
  have hc60 := hc53.later hb
  have hd61 := hd54.later hb
  clear hP48 hF49 hT50 ha51 hb52 hc53 hd54 hb
  have hk := hP55.box
  obtain ⟨Pq0, Pq1, Pq2⟩ := hk
  have hk := hd61.box
  obtain ⟨dq0, dq1, dq2, dq3, dq4, dq5, dq6, dq7, dq8, dq9⟩ := hk
  go_wp2_with fail
  clear Pq0 Pq1 Pq2 dq0 dq1 dq2 dq3 dq4 dq5 dq6 dq7 dq8 dq9
  refine (Wait_any ⟨2, 8, 64⟩ ⟨44, 12, 17, 1, true⟩ _ hT57).mono ?_
  rintro r w8 ⟨he, hb⟩
  rw [kn5] at he
  subst he
  have hP62 := hP55.later hb
  have hF63 := frN hF56 hb
  have hT64 := hT57.next hb
  have ha65 := ha58.later hb
  have hb66 := hb59.later hb
  have hc67 := hc60.later hb
  have hd68 := hd61.later hb
  clear hP55 hF56 hT57 ha58 hb59 hc60 hd61 hb
  go_wp2_with fail
  refine (num_any 0 _).mono ?_
  rintro r w9 ⟨he, hb⟩
  subst he
  have hP69 := hP62.later hb
  have hF70 := frN hF63 hb
  have hT71 := hT64.next hb
  have ha72 := ha65.later hb
  have hb73 := hb66.later hb
  have hc74 := hc67.later hb
  have hd75 := hd68.later hb
  clear hP62 hF63 hT64 ha65 hb66 hc67 hd68 hb
  go_wp2
  go_ret
  exact ⟨rfl, hF70⟩
end Go.Proofs.YtjaheoccofcklabDoor
