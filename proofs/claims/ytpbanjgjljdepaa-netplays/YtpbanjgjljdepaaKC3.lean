/- sends, by its contract. -/
import Derived.Test.YtpbanjgjljdepaaKC2
namespace Go.Proofs.Ytpbanjgjljdepaa
open Go.RowKit Go.Maps
set_option maxRecDepth 100000
variable {w w' w0 w1 : World} {lab lab' lab'' : Nat → Nat} {k j pb c : Nat} {a b : Nat → Nat} {v bv bv' l : Value} {st : Int} {lg : Bool} {F : Nat → Prop} {S R : Nat → St} {es : List Ke}
abbrev Op.box (o : Op) : Array Value := #[.int .i64 o.k, .int .i64 o.w, .int .i64 o.no, .int .i64 o.a, .int .i64 o.v, .int .i64 o.to, .slice o.da o.dn o.dc, .int .i64 o.m]
theorem Lies.first {g n c : Nat} {d e : List Int} (h : Lies w (some ⟨g, 0, none⟩) (n + 3) c (d ++ e)) (hn : d.length = n) : Lies w (some ⟨g, 0, none⟩) n c d :=
  ⟨hn, by have := h.hle; omega, (fun q => by cases q), fun ad had t u hu => h.hcells ad had t u (by
    rw [List.map_append, List.getElem?_append_left]
    · exact hu
    · exact (List.getElem?_eq_some_iff.1 hu).1)⟩
def ShT (lg : Bool) (T : St) : Prop := lg = false → ∀ f ∈ T.l, f.d.length ≤ 4096
def ShO (lg : Bool) (S : Nat → St) (T : St) : Prop := (lg = false → ∀ c, c < 2 → ∀ f ∈ (S c).l, f.d.length ≤ 4096) → ShT lg T
/-- What sends leaves. -/
def Sent (w w' : World) (lab : Nat → Nat) (k pb : Nat) (a b : Nat → Nat) (st : Int) (S R : Nat → St) (es : List Ke) (c : Nat) (o : Op) : Prop :=
  ∃ lab' bv' lg' es', Pl w' lab' k pb a b bv' st lg' (upd2 S c (sendS (S c) o.to o.Z)) (upd2 R c (sendS (R c) o.to o.Z)) es' ∧ Fr k w w' lab lab' ∧ (es'.length ≤ es.length ∨ es'.length ≤ 902)
/-- Amid sends: the play, its operation's box, the list w (u) that was handed in. -/
structure Mid (w0 w W : World) (lab L : Nat → Nat) (k pb : Nat) (a b : Nat → Nat) (bv : Value) (st : Int) (lg : Bool) (S R : Nat → St) (es : List Ke) (o : Op) (ob : Nat) (u : Value) : Prop where
  pl : Pl W L k pb a b bv st lg S R es
  fr : Fr k w W lab L
  wk : Wk w0 L W
  op : W.heap[ob]? = some (.cells o.box 59)
  ob : ¬ Mine k (L ob)
  row : W.ownsRow 0 5 1 u (o.dn + 3) ((o.Z ++ [201, 202, 203]).map (Value.int .u8))
  ru : ∀ i, u.ownBlock = some i → ¬ Mine k (L i)
  un : ∀ i, u.ownBlock = some i → w.heap.size ≤ i
section
variable {W W' : World} {L L' : Nat → Nat} {S' R' : Nat → St} {o : Op} {ob : Nat} {u : Value}
theorem Mid.step (h : Mid w0 w W lab L k pb a b bv st lg S R es o ob u) (hk : 0 < k) (p : Pl W' L' k pb a b bv st lg S' R' es) (f : Fr k W W' L L') : Mid w0 w W' lab L' k pb a b bv st lg S' R' es o ob u :=
  ⟨p, h.fr.trans f, f.wk h.wk hk, (f.box h.op h.ob).1, (f.box h.op h.ob).2, own_turns h.row f.t h.ru, fun i q => by rw [f.hl i (own_lt h.row q) (h.ru i q)]; exact h.ru i q, h.un⟩
theorem Mid.below (h : Mid w0 w W lab L k pb a b bv st lg S R es o ob u) (hk : 0 < k) (q : Below W.heap.size W W') : Mid w0 w W' lab (rl L W (k + 6)) k pb a b bv st lg S R es o ob u :=
  h.step hk (h.pl.below q (k + 6)) (Fr.below q (k + 6))
theorem Mid.pk (h : Mid w0 w W lab L k pb a b bv st lg S R es o ob u) : ¬ (bv.ownBlock = some pb ∨ u.ownBlock = some pb) := fun q => by
  have hl := h.pl.lb
  rcases q with q | q
  · have : L pb = k + 4 := h.pl.bk.kb pb q
    omega
  · exact h.ru pb q ⟨by omega, by omega⟩
theorem Mid.booked (h : Mid w0 w W lab L k pb a b bv st lg S R es o ob u) (q : Kept3 W w1 (fun i => L i = k + 4) bv u bv' es) (t : Turns (fun i => i = pb) w1 w') (hb : w'.heap[pb]? = some (.cells (plC a b bv' st lg) 71 (0, 0))) (he : es.length ≤ 1297) : ∃ L' es', es'.length = es.length + 3 ∧ Pl w' L' k pb a b bv' st lg S R es' ∧ Fr k w w' lab L' := by
  obtain ⟨es', h1, h2⟩ := h.pl.booked q h.ru t hb he
  obtain ⟨_, _, _, hT⟩ := q
  have hl := h.pl.lb
  refine ⟨_, es', h1, h2, h.fr.t.trans ((hT.mono (G := fun i => Mine k (L i) ∨ u.ownBlock = some i) (fun i _ q => q.elim (fun r => Or.inl (by have : L i = k + 4 := h.pl.bk.kb i r; exact ⟨by omega, by omega⟩)) Or.inr)).trans (t.mono (G := fun i => Mine k (L i) ∨ u.ownBlock = some i) (fun i _ q => by subst q; exact Or.inl ⟨by omega, by omega⟩)) (fun _ _ r => r)) (fun i hi q => ?_), fun i hi q => ?_⟩
  · rcases q with q | q
    · refine Classical.byContradiction fun r => ?_
      rw [h.fr.hl i hi r] at q
      exact r q
    · have := h.un i q; omega
  · rw [tl_off (fun r => by have := h.un i r; omega), rl_old (Nat.lt_of_lt_of_le hi h.fr.t.size)]
    exact h.fr.hl i hi q
theorem Mid.o5 (h : Mid w0 w W lab L k pb a b bv st lg S R es o ob u) : W.cell? ⟨ob, 5, none⟩ = some (.int .i64 o.to) := by simp [World.cell?, h.op]
theorem Mid.o6 (h : Mid w0 w W lab L k pb a b bv st lg S R es o ob u) : W.cell? ⟨ob, 6, none⟩ = some (.slice o.da o.dn o.dc) := by simp [World.cell?, h.op]
end
set_option maxHeartbeats 4000000 in
theorem sends_any (h : Pl w lab k pb a b bv st lg S R es) (hw : Wk w0 lab w) (hk : 0 < k) (hc : c < 2) (hR : R c = S c) (hlast : (S c).last < 4611686018427387904) (o : Op) (hO : ∀ w', Below w0.heap.size w0 w' → o.In w') :
    Calls Try.prog 37 #[.pointer (some ⟨pb, 0, none⟩), .int .i64 c, .agg o.box] w fun e w' => e = .returned (.bool true) ∧ Sent w w' lab k pb a b st S R es c o := by
  obtain ⟨ba, bc, rfl⟩ := tl_slice h.bk.row
  have hfew := h.few
  obtain ⟨W1, hW1⟩ : ∃ W, w.alloc (.cells o.box 59) = W := ⟨_, rfl⟩
  have z1 : W1.heap[w.heap.size]? = some (.cells o.box 59) := by rw [← hW1]; exact heap_alloc_new w _
  have b1 : Below w.heap.size w W1 := by rw [← hW1]; exact (Below.refl _ w).alloc (Nat.le_refl _) _
  obtain ⟨L1, hL1⟩ : ∃ L, rl lab w (k + 6) = L := ⟨_, rfl⟩
  have P1 := h.below b1 (k + 6)
  have F1 : Fr k w W1 lab (rl lab w (k + 6)) := Fr.below b1 (k + 6)
  have n1 : ¬ Mine k (rl lab w (k + 6) w.heap.size) := by rw [rl_new (Nat.le_refl _)]; exact fun q => by have := q.2; omega
  rw [hL1] at P1 F1 n1
  obtain ⟨lg', hlg⟩ : ∃ x : Bool, (lg || decide (4096 < o.dn)) = x := ⟨_, rfl⟩
  obtain ⟨W2, hW2⟩ : ∃ W, W1.setCell ⟨pb, 6, none⟩ (.bool lg') = W := ⟨_, rfl⟩
  have u2 : Turns (fun i => i = pb) W1 W2 := by rw [← hW2]; exact Turns.cell W1 pb 6 _
  have z2 : W2.heap[pb]? = some (.cells (plC a b (.slice ba es.length bc) st lg') 71 (0, 0)) := by rw [← hW2]; exact heap_setCell_same _ _ _ _ _ _ P1.box
  obtain ⟨P2, F2⟩ := P1.boxed u2 z2 (fun q => by rw [q] at hlg; cases lg <;> simp_all)
  have F2' := F1.trans F2
  obtain ⟨y2, m2⟩ := F2.box z1 n1
  have hwk2 := F2'.wk hw hk
  have i2 := hO W2 hwk2.b
  have c6 : W1.cell? ⟨pb, 6, none⟩ = some (.bool lg) := P1.cell 6 _ rfl
  have f6 : W1.frozen? ⟨pb, 6, none⟩ = false := P1.fz 6
  have o6 : W1.cell? ⟨w.heap.size, 6, none⟩ = some (.slice o.da o.dn o.dc) := by simp [World.cell?, z1]
  have q6 : W2.cell? ⟨w.heap.size, 6, none⟩ = some (.slice o.da o.dn o.dc) := by simp [World.cell?, y2]
  have hrm := roomy_any o.da o.dn o.dc o.Z W2 i2.le i2.li
  have HP : Hid (Pl W2 L1 k pb a b (.slice ba es.length bc) st lg' S R es) := P2
  have HF : Hid (Fr k w W2 lab L1) := F2'
  have HW : Hid (Wk w0 L1 W2) := hwk2
  have HI : Hid (o.In W2) := i2
  have HY : Hid (W2.heap[w.heap.size]? = some (.cells o.box 59) ∧ ¬ Mine k (L1 w.heap.size)) := ⟨y2, m2⟩
  have HG : Hid ((lg || decide (4096 < o.dn)) = lg') := hlg
  clear P1 F1 P2 F2 F2' hwk2 i2 y2 m2 h hw z1 b1 n1 hL1 u2 z2
  have hst : lg = true ∧ lg' = true ∨ lg = false ∧ o.dn ≤ 4096 ∧ lg' = false ∨ lg = false ∧ 4096 < o.dn ∧ lg' = true := by
    have := HG.out
    cases lg
    · by_cases hq : 4096 < o.dn
      · simp [hq] at this; simp [this, hq]
      · simp [hq] at this; simp [this]; omega
    · simp at this; simp [this]
  have hsh0 : (lg' = false → ∀ c, c < 2 → ∀ f ∈ (S c).l, f.d.length ≤ 4096) → lg' = false → ∀ f ∈ (sendS (S c) o.to o.Z).l, f.d.length ≤ 4096 := fun q r f hf => by
    have hz : o.Z.length ≤ 4096 := by
      rw [HI.out.li.hlen]
      rcases hst with h | h | h
      · rw [h.2] at r; cases r
      · exact h.2.1
      · rw [h.2.2] at r; cases r
    unfold sendS at hf
    split at hf
    · exact q r c hc f hf
    · rcases List.mem_append.1 hf with h | h
      · exact q r c hc f h
      · obtain rfl := List.mem_singleton.1 h
        exact hz
  have HSh : Hid (ShO lg' S (sendS (S c) o.to o.Z)) := hsh0
  clear hsh0
  rcases hst with ⟨rfl, rfl⟩ | ⟨rfl, hq, rfl⟩ | ⟨rfl, hq, rfl⟩
  · obtain rfl | rfl : c = 0 ∨ c = 1 := by omega
    · rw [show ((0 : Nat) : Int) = 0 from rfl]
      go_enter Try.func37, Try.ntmps37
      go_wp2_with fail
      refine hrm.mono ?_
      rintro e w3 ⟨g, c', rfl, ho3, b3⟩
      have M3 : Mid w0 w w3 lab (rl L1 W2 (k + 6)) k pb a b (.slice ba es.length bc) st _ S R es o w.heap.size (.slice (some ⟨g, 0, none⟩) (o.dn + 3) c') :=
        ⟨HP.out.below b3 (k + 6), HF.out.trans (Fr.below b3 (k + 6)), HW.out.below b3 (k + 6), ((Fr.below b3 (k + 6)).box HY.out.1 HY.out.2).1, ((Fr.below b3 (k + 6)).box HY.out.1 HY.out.2).2, ownsRow_mono ho3 (Nat.zero_le _), fun i q => by rw [rl_new (own_ge ho3 q)]; exact fun q => by have := q.2; omega, fun i q => Nat.le_trans HF.out.t.size (own_ge ho3 q)⟩
      generalize rl L1 W2 (k + 6) = L3 at M3
      have M4 := M3.below hk (below_drewN w3 1)
      generalize rl L3 w3 (k + 6) = L4 at M4
      have hl4 : Lies (w3.drewN 1) (some ⟨g, 0, none⟩) (o.dn + 3) c' (o.Z ++ [201, 202, 203]) := Lies.owned M4.row
      have hle3 := hl4.hle
      have hS := sendN (M4.pl.n 0 hc) hlast o.to (some ⟨g, 0, none⟩) o.dn c' o.Z (hl4.first HI.out.li.hlen) (Nat.le_trans HI.out.le (by decide))
      have HSs : Hid (ShT _ (sendS (S 0) o.to o.Z)) := HSh.out M4.pl.short
      have p0 := M3.pl.cell 0 _ rfl
      have o5 := M3.o5
      have o6' := M3.o6
      have hsl : (o.dn : Int) ≤ c' := by omega
      have HM4 : Hid (Mid w0 w (w3.drewN 1) lab L4 k pb a b (.slice ba es.length bc) st _ S R es o w.heap.size _) := M4
      clear M3 M4 hl4 hrm HP HF HW HY c6 f6 o6 q6
      go_wp2_with fail
      refine wp_region_held_drew (S := fun w' => w'.cell? ⟨pb, 0, none⟩ = some (.pointer (some ⟨a 0, 0, none⟩)) ∧ w'.cell? ⟨w.heap.size, 5, none⟩ = some (.int .i64 o.to) ∧ w'.cell? ⟨w.heap.size, 6, none⟩ = some (.slice o.da o.dn o.dc)) (by kernel_rfl) ⟨p0, o5, o6'⟩ (fun hHeld => ?_)
      refine wpAnyH_take (i := 0) (oi := ⟨some 27, .move (.tmp 0), 66, "law.go:111", #[], none⟩) (v := (.pointer (some ⟨pb, 0, none⟩))) rfl (by kernel_rfl) (by kernel_rfl) (by kernel_rfl) (fun _ _ _ h => h) (Or.inl ⟨by rfl, fun _ _ => by rfl⟩) hHeld ?_
      simp only [Act.put, List.setIfInBounds_toArray, List.set_cons_zero, List.set_cons_succ]
      refine wpAnyH_take (i := 1) (oi := ⟨some 28, .move (.tmp 1), 3, "law.go:111", #[], none⟩) (v := (.int .i64 0)) rfl (by kernel_rfl) (by kernel_rfl) (by kernel_rfl) (fun _ _ _ h => h) (Or.inl ⟨by rfl, fun _ _ => by rfl⟩) hHeld ?_
      simp only [Act.put, List.setIfInBounds_toArray, List.set_cons_zero, List.set_cons_succ]
      refine wpAnyH_take (i := 2) (oi := ⟨some 29, .nilCheck (.tmp 27), 0, "law.go:111", #[⟨0, .data⟩], none⟩) (v := (.pointer (some ⟨pb, 0, none⟩))) rfl (by kernel_rfl) (by kernel_rfl) (by kernel_rfl) (fun _ _ _ h => h) (Or.inl ⟨by rfl, fun _ _ => by rfl⟩) hHeld ?_
      simp only [Act.put, List.setIfInBounds_toArray, List.set_cons_zero, List.set_cons_succ]
      refine wpAnyH_take (i := 3) (oi := ⟨some 30, .fieldAddr 71 (.tmp 29) 0, 0, "law.go:111", #[⟨2, .data⟩], none⟩) (v := (.pointer (some ⟨pb, 0, none⟩))) rfl (by kernel_rfl) (by kernel_rfl) (by kernel_rfl) (fun _ _ _ h => h) (Or.inl ⟨by rfl, fun _ _ => by rfl⟩) hHeld ?_
      simp only [Act.put, List.setIfInBounds_toArray, List.set_cons_zero, List.set_cons_succ]
      refine wpAnyH_take (i := 4) (oi := ⟨some 31, .indexAddr 67 (.tmp 30) (.tmp 28), 0, "law.go:111", #[⟨3, .data⟩, ⟨1, .data⟩], none⟩) (v := (.pointer (some ⟨pb, 0, none⟩))) rfl (by kernel_rfl) (by kernel_rfl) (by kernel_rfl) (fun _ _ _ h => h) (Or.inl ⟨by rfl, fun w' h' => by unfold execOp; go_simp⟩) hHeld ?_
      simp only [Act.put, List.setIfInBounds_toArray, List.set_cons_zero, List.set_cons_succ]
      refine wpAnyH_take (i := 5) (oi := ⟨some 32, .load 24 (.tmp 31), 24, "law.go:111", #[⟨4, .data⟩], none⟩) (v := (.pointer (some ⟨a 0, 0, none⟩))) rfl (by kernel_rfl) (by kernel_rfl) (by kernel_rfl) (fun _ _ _ h => h) (Or.inl ⟨by rfl, fun w' h' => by have e1 := h'.1; have e2 := h'.2.1; have e3 := h'.2.2; unfold execOp; go_simp⟩) hHeld ?_
      simp only [Act.put, List.setIfInBounds_toArray, List.set_cons_zero, List.set_cons_succ]
      refine wpAnyH_take (i := 6) (oi := ⟨some 33, .fieldAddr 59 (.tmp 5) 5, 0, "law.go:111", #[], none⟩) (v := (.pointer (some ⟨w.heap.size, 5, none⟩))) rfl (by kernel_rfl) (by kernel_rfl) (by kernel_rfl) (fun _ _ _ h => h) (Or.inl ⟨by rfl, fun _ _ => by rfl⟩) hHeld ?_
      simp only [Act.put, List.setIfInBounds_toArray, List.set_cons_zero, List.set_cons_succ]
      refine wpAnyH_take (i := 7) (oi := ⟨some 34, .load 3 (.tmp 33), 3, "law.go:111", #[⟨6, .data⟩], none⟩) (v := (.int .i64 o.to)) rfl (by kernel_rfl) (by kernel_rfl) (by kernel_rfl) (fun _ _ _ h => h) (Or.inl ⟨by rfl, fun w' h' => by have e1 := h'.1; have e2 := h'.2.1; have e3 := h'.2.2; unfold execOp; go_simp⟩) hHeld ?_
      simp only [Act.put, List.setIfInBounds_toArray, List.set_cons_zero, List.set_cons_succ]
      refine wpAnyH_take (i := 8) (oi := ⟨some 35, .move (.tmp 7), 22, "law.go:111", #[], none⟩) (v := (.slice (some ⟨g, 0, none⟩) (o.dn + 3) c')) rfl (by kernel_rfl) (by kernel_rfl) (by kernel_rfl) (fun _ _ _ h => h) (Or.inl ⟨by rfl, fun _ _ => by rfl⟩) hHeld ?_
      simp only [Act.put, List.setIfInBounds_toArray, List.set_cons_zero, List.set_cons_succ]
      refine wpAnyH_take (i := 9) (oi := ⟨some 36, .fieldAddr 59 (.tmp 5) 6, 0, "law.go:111", #[], none⟩) (v := (.pointer (some ⟨w.heap.size, 6, none⟩))) rfl (by kernel_rfl) (by kernel_rfl) (by kernel_rfl) (fun _ _ _ h => h) (Or.inl ⟨by rfl, fun _ _ => by rfl⟩) hHeld ?_
      simp only [Act.put, List.setIfInBounds_toArray, List.set_cons_zero, List.set_cons_succ]
      refine wpAnyH_take (i := 10) (oi := ⟨some 37, .load 22 (.tmp 36), 22, "law.go:111", #[⟨9, .data⟩], none⟩) (v := (.slice o.da o.dn o.dc)) rfl (by kernel_rfl) (by kernel_rfl) (by kernel_rfl) (fun _ _ _ h => h) (Or.inl ⟨by rfl, fun w' h' => by have e1 := h'.1; have e2 := h'.2.1; have e3 := h'.2.2; unfold execOp; go_simp⟩) hHeld ?_
      simp only [Act.put, List.setIfInBounds_toArray, List.set_cons_zero, List.set_cons_succ]
      refine wpAnyH_take (i := 11) (oi := ⟨some 38, .call ⟨.builtin .len, #[.tmp 37], #[22]⟩, 3, "law.go:111", #[⟨10, .data⟩], none⟩) (v := (.int .i64 o.dn)) rfl (by kernel_rfl) (by kernel_rfl) (by kernel_rfl) (fun _ _ _ h => h) (Or.inl ⟨by rfl, fun w' h' => by unfold execOp; go_simp⟩) hHeld ?_
      simp only [Act.put, List.setIfInBounds_toArray, List.set_cons_zero, List.set_cons_succ]
      refine wpAnyH_take (i := 12) (oi := ⟨some 39, .slice 22 (.tmp 35) none (some (.tmp 38)) none, 22, "law.go:111", #[⟨8, .data⟩, ⟨11, .data⟩], none⟩) (v := (.slice (some ⟨g, 0, none⟩) o.dn c')) rfl (by kernel_rfl) (by kernel_rfl) (by kernel_rfl) (fun _ _ _ h => h) (Or.inl ⟨by rfl, fun w' h' => by unfold execOp; go_simp⟩) hHeld ?_
      simp only [Act.put, List.setIfInBounds_toArray, List.set_cons_zero, List.set_cons_succ]
      refine wpAnyH_take (i := 13) (oi := ⟨some 40, .build 28 #[(0, .tmp 34), (1, .tmp 39)], 28, "law.go:111", #[⟨7, .data⟩, ⟨12, .data⟩], none⟩) (v := (.agg #[.int .i64 o.to, (.slice (some ⟨g, 0, none⟩) o.dn c')])) rfl (by kernel_rfl) (by kernel_rfl) (by kernel_rfl) (fun _ _ _ h => h) (Or.inl ⟨by rfl, fun w' h' => by unfold execOp; go_simp⟩) hHeld ?_
      simp only [Act.put, List.setIfInBounds_toArray, List.set_cons_zero, List.set_cons_succ]
      refine wpAnyH_ready (rs := [14]) (by kernel_rfl) (by simp) ?_
      refine AllReadyH.cons (o := ⟨some 41, .call ⟨.value (.func 11), #[.tmp 32, .tmp 40], #[24, 28]⟩, 3, "law.go:111", #[⟨5, .data⟩, ⟨13, .data⟩], none⟩) rfl (fun KK hK => ?_) (AllReadyH.nil)
      go_simp
      refine hS.mono ?_
      rintro e w5 ⟨rfl, hN5, t5⟩
      obtain ⟨P5, F5⟩ := HM4.out.pl.stepN hc hN5 t5 (fun i hi _ => rl_old hi) HSs.out
      have M5 := HM4.out.step hk P5 F5
      have x0 := P5.cell 0 _ rfl
      have x2 := P5.cell 2 _ rfl
      have x5 := M5.o5
      have x6 := M5.o6
      have HM5 : Hid (Mid w0 w w5 lab _ k pb a b (.slice ba es.length bc) st _ _ R es o w.heap.size _) := M5
      clear hS M5 P5 F5 hN5 t5 HM4
      go_wp2_with fail
      refine hK.out _ _ ⟨x0, x5, x6⟩ (fun hHeld => ?_)
      clear hK KK
      try simp only [Act.put, List.setIfInBounds_toArray, List.set_cons_zero, List.set_cons_succ]
      refine wpAnyH_take (i := 15) (oi := ⟨some 8, .assign (.tmp 41), 3, "law.go:111", #[⟨14, .data⟩, ⟨14, .chain⟩, ⟨0, .phase⟩, ⟨1, .phase⟩, ⟨2, .phase⟩, ⟨3, .phase⟩, ⟨4, .phase⟩, ⟨5, .phase⟩, ⟨6, .phase⟩, ⟨7, .phase⟩, ⟨8, .phase⟩, ⟨9, .phase⟩, ⟨10, .phase⟩, ⟨11, .phase⟩, ⟨12, .phase⟩, ⟨13, .phase⟩, ⟨14, .phase⟩], none⟩) (v := (.int .i64 (sendA (S 0)))) rfl (by kernel_rfl) (by kernel_rfl) (by kernel_rfl) (fun _ _ _ h => h) (Or.inl ⟨by rfl, fun _ _ => by rfl⟩) hHeld ?_
      simp only [Act.put, List.setIfInBounds_toArray, List.set_cons_zero, List.set_cons_succ]
      refine wpAnyH_done (by kernel_rfl) ?_ _
      go_wp2_with fail
      have M6 := HM5.out.below hk (below_drewN w5 1)
      have i6 := hO _ M6.wk.b
      have hD := dsendN (M6.pl.d 0 hc) (by rw [hR]; exact hlast) o.to o.da o.dn o.dc o.Z i6.li (Nat.le_trans HI.out.le (by decide))
      rw [hR] at hD
      have HM6 : Hid (Mid w0 w (w5.drewN 1) lab _ k pb a b (.slice ba es.length bc) st _ _ R es o w.heap.size _) := M6
      clear M6 HM5 i6
      refine wp_region_held_drew (S := fun w' => w'.cell? ⟨pb, 2, none⟩ = some (.pointer (some ⟨b 0, 0, none⟩)) ∧ w'.cell? ⟨w.heap.size, 5, none⟩ = some (.int .i64 o.to) ∧ w'.cell? ⟨w.heap.size, 6, none⟩ = some (.slice o.da o.dn o.dc)) (by kernel_rfl) ⟨x2, x5, x6⟩ (fun hHeld => ?_)
      refine wpAnyH_take (i := 0) (oi := ⟨some 42, .move (.tmp 0), 66, "law.go:112", #[], none⟩) (v := (.pointer (some ⟨pb, 0, none⟩))) rfl (by kernel_rfl) (by kernel_rfl) (by kernel_rfl) (fun _ _ _ h => h) (Or.inl ⟨by rfl, fun _ _ => by rfl⟩) hHeld ?_
      simp only [Act.put, List.setIfInBounds_toArray, List.set_cons_zero, List.set_cons_succ]
      refine wpAnyH_take (i := 1) (oi := ⟨some 43, .move (.tmp 1), 3, "law.go:112", #[], none⟩) (v := (.int .i64 0)) rfl (by kernel_rfl) (by kernel_rfl) (by kernel_rfl) (fun _ _ _ h => h) (Or.inl ⟨by rfl, fun _ _ => by rfl⟩) hHeld ?_
      simp only [Act.put, List.setIfInBounds_toArray, List.set_cons_zero, List.set_cons_succ]
      refine wpAnyH_take (i := 2) (oi := ⟨some 44, .nilCheck (.tmp 42), 0, "law.go:112", #[⟨0, .data⟩], none⟩) (v := (.pointer (some ⟨pb, 0, none⟩))) rfl (by kernel_rfl) (by kernel_rfl) (by kernel_rfl) (fun _ _ _ h => h) (Or.inl ⟨by rfl, fun _ _ => by rfl⟩) hHeld ?_
      simp only [Act.put, List.setIfInBounds_toArray, List.set_cons_zero, List.set_cons_succ]
      refine wpAnyH_take (i := 3) (oi := ⟨some 45, .fieldAddr 71 (.tmp 44) 1, 0, "law.go:112", #[⟨2, .data⟩], none⟩) (v := (.pointer (some ⟨pb, 2, none⟩))) rfl (by kernel_rfl) (by kernel_rfl) (by kernel_rfl) (fun _ _ _ h => h) (Or.inl ⟨by rfl, fun _ _ => by rfl⟩) hHeld ?_
      simp only [Act.put, List.setIfInBounds_toArray, List.set_cons_zero, List.set_cons_succ]
      refine wpAnyH_take (i := 4) (oi := ⟨some 46, .indexAddr 68 (.tmp 45) (.tmp 43), 0, "law.go:112", #[⟨3, .data⟩, ⟨1, .data⟩], none⟩) (v := (.pointer (some ⟨pb, 2, none⟩))) rfl (by kernel_rfl) (by kernel_rfl) (by kernel_rfl) (fun _ _ _ h => h) (Or.inl ⟨by rfl, fun w' h' => by unfold execOp; go_simp⟩) hHeld ?_
      simp only [Act.put, List.setIfInBounds_toArray, List.set_cons_zero, List.set_cons_succ]
      refine wpAnyH_take (i := 5) (oi := ⟨some 47, .load 52 (.tmp 46), 52, "law.go:112", #[⟨4, .data⟩], none⟩) (v := (.pointer (some ⟨b 0, 0, none⟩))) rfl (by kernel_rfl) (by kernel_rfl) (by kernel_rfl) (fun _ _ _ h => h) (Or.inl ⟨by rfl, fun w' h' => by have e1 := h'.1; have e2 := h'.2.1; have e3 := h'.2.2; unfold execOp; go_simp⟩) hHeld ?_
      simp only [Act.put, List.setIfInBounds_toArray, List.set_cons_zero, List.set_cons_succ]
      refine wpAnyH_take (i := 6) (oi := ⟨some 48, .fieldAddr 59 (.tmp 5) 5, 0, "law.go:112", #[], none⟩) (v := (.pointer (some ⟨w.heap.size, 5, none⟩))) rfl (by kernel_rfl) (by kernel_rfl) (by kernel_rfl) (fun _ _ _ h => h) (Or.inl ⟨by rfl, fun _ _ => by rfl⟩) hHeld ?_
      simp only [Act.put, List.setIfInBounds_toArray, List.set_cons_zero, List.set_cons_succ]
      refine wpAnyH_take (i := 7) (oi := ⟨some 49, .load 3 (.tmp 48), 3, "law.go:112", #[⟨6, .data⟩], none⟩) (v := (.int .i64 o.to)) rfl (by kernel_rfl) (by kernel_rfl) (by kernel_rfl) (fun _ _ _ h => h) (Or.inl ⟨by rfl, fun w' h' => by have e1 := h'.1; have e2 := h'.2.1; have e3 := h'.2.2; unfold execOp; go_simp⟩) hHeld ?_
      simp only [Act.put, List.setIfInBounds_toArray, List.set_cons_zero, List.set_cons_succ]
      refine wpAnyH_take (i := 8) (oi := ⟨some 50, .fieldAddr 59 (.tmp 5) 6, 0, "law.go:112", #[], none⟩) (v := (.pointer (some ⟨w.heap.size, 6, none⟩))) rfl (by kernel_rfl) (by kernel_rfl) (by kernel_rfl) (fun _ _ _ h => h) (Or.inl ⟨by rfl, fun _ _ => by rfl⟩) hHeld ?_
      simp only [Act.put, List.setIfInBounds_toArray, List.set_cons_zero, List.set_cons_succ]
      refine wpAnyH_take (i := 9) (oi := ⟨some 51, .load 22 (.tmp 50), 22, "law.go:112", #[⟨8, .data⟩], none⟩) (v := (.slice o.da o.dn o.dc)) rfl (by kernel_rfl) (by kernel_rfl) (by kernel_rfl) (fun _ _ _ h => h) (Or.inl ⟨by rfl, fun w' h' => by have e1 := h'.1; have e2 := h'.2.1; have e3 := h'.2.2; unfold execOp; go_simp⟩) hHeld ?_
      simp only [Act.put, List.setIfInBounds_toArray, List.set_cons_zero, List.set_cons_succ]
      refine wpAnyH_take (i := 10) (oi := ⟨some 52, .build 28 #[(0, .tmp 49), (1, .tmp 51)], 28, "law.go:112", #[⟨7, .data⟩, ⟨9, .data⟩], none⟩) (v := (.agg #[.int .i64 o.to, (.slice o.da o.dn o.dc)])) rfl (by kernel_rfl) (by kernel_rfl) (by kernel_rfl) (fun _ _ _ h => h) (Or.inl ⟨by rfl, fun w' h' => by unfold execOp; go_simp⟩) hHeld ?_
      simp only [Act.put, List.setIfInBounds_toArray, List.set_cons_zero, List.set_cons_succ]
      refine wpAnyH_ready (rs := [11]) (by kernel_rfl) (by simp) ?_
      refine AllReadyH.cons (o := ⟨some 53, .call ⟨.value (.func 24), #[.tmp 47, .tmp 52], #[52, 28]⟩, 3, "law.go:112", #[⟨5, .data⟩, ⟨10, .data⟩], none⟩) rfl (fun KK hK => ?_) (AllReadyH.nil)
      go_simp
      refine hD.mono ?_
      rintro e w7 ⟨rfl, hN7, t7⟩
      obtain ⟨P7, F7⟩ := HM6.out.pl.stepD hc hN7 t7 (fun i hi _ => rl_old hi)
      have M7 := HM6.out.step hk P7 F7
      have y0 := P7.cell 2 _ rfl
      have y4 := P7.cell 4 _ rfl
      have y6 := P7.cell 6 _ rfl
      have y5 := M7.o5
      have y7 := M7.o6
      have HM7 : Hid (Mid w0 w w7 lab _ k pb a b (.slice ba es.length bc) st _ _ _ es o w.heap.size _) := M7
      clear hD M7 P7 F7 hN7 t7 HM6
      go_wp2_with fail
      refine hK.out _ _ ⟨y0, y5, y7⟩ (fun hHeld => ?_)
      clear hK KK
      try simp only [Act.put, List.setIfInBounds_toArray, List.set_cons_zero, List.set_cons_succ]
      refine wpAnyH_take (i := 12) (oi := ⟨some 9, .assign (.tmp 53), 3, "law.go:112", #[⟨11, .data⟩, ⟨11, .chain⟩, ⟨0, .phase⟩, ⟨1, .phase⟩, ⟨2, .phase⟩, ⟨3, .phase⟩, ⟨4, .phase⟩, ⟨5, .phase⟩, ⟨6, .phase⟩, ⟨7, .phase⟩, ⟨8, .phase⟩, ⟨9, .phase⟩, ⟨10, .phase⟩, ⟨11, .phase⟩], none⟩) (v := (.int .i64 (sendA (S 0)))) rfl (by kernel_rfl) (by kernel_rfl) (by kernel_rfl) (fun _ _ _ h => h) (Or.inl ⟨by rfl, fun _ _ => by rfl⟩) hHeld ?_
      simp only [Act.put, List.setIfInBounds_toArray, List.set_cons_zero, List.set_cons_succ]
      refine wpAnyH_done (by kernel_rfl) ?_ _
      have i7 := hO _ HM7.out.wk.b
      have hr8 := roomy_any o.da o.dn o.dc o.Z w7 i7.le i7.li
      clear i7
      go_wp2_with fail
      refine hr8.mono ?_
      rintro e w8 ⟨g2, c2, rfl, ho8, b8⟩
      have M8 := HM7.out.below hk b8
      have hs8 := same_any (some ⟨g, 0, none⟩) (some ⟨g2, 0, none⟩) (o.dn + 3) (o.dn + 3) c' c2 (o.Z ++ [201, 202, 203]) (o.Z ++ [201, 202, 203]) w8 (by have := HI.out.le; omega) (Lies.owned M8.row) (Lies.owned ho8)
      have HM8 : Hid (Mid w0 w w8 lab _ k pb a b (.slice ba es.length bc) st _ _ _ es o w.heap.size _) := M8
      clear M8 HM7 hr8 y0 y4 y5 y6 y7 ho8 b8
      go_wp2_with fail
      refine hs8.mono ?_
      rintro e w9 ⟨rfl, m9, hw9⟩
      have b9 : Below w8.heap.size w8 w9 := by rw [hw9]; exact below_drewN w8 m9
      have M9 := HM8.out.below hk b9
      have p4 := M9.pl.cell 4 _ rfl
      have p6 := M9.pl.cell 6 _ rfl
      have HM9 : Hid (Mid w0 w w9 lab _ k pb a b (.slice ba es.length bc) st _ _ _ es o w.heap.size _) := M9
      have hdd : decide (o.Z ++ [201, 202, 203] = o.Z ++ [201, 202, 203]) = true := decide_eq_true rfl
      have hbb : (sendA (S 0) == sendA (S 0)) = true := by simp
      clear hw9 M9 HM8 hs8 b9
      by_cases hE : es.length < 900
      · have hEi : (es.length : Int) < 900 := by omega
        go_wp2_with fail
        go_ret
        exact ⟨rfl, _, _, _, _, by rw [hR]; exact HM9.out.pl, HM9.out.fr, Or.inl (Nat.le_refl _)⟩
      · have hEi : ¬ (es.length : Int) < 900 := by omega
        go_wp2_with fail
        go_ret
        exact ⟨rfl, _, _, _, _, by rw [hR]; exact HM9.out.pl, HM9.out.fr, Or.inl (Nat.le_refl _)⟩
    · rw [show ((1 : Nat) : Int) = 1 from rfl]
      go_enter Try.func37, Try.ntmps37
      go_wp2_with fail
      refine hrm.mono ?_
      rintro e w3 ⟨g, c', rfl, ho3, b3⟩
      have M3 : Mid w0 w w3 lab (rl L1 W2 (k + 6)) k pb a b (.slice ba es.length bc) st _ S R es o w.heap.size (.slice (some ⟨g, 0, none⟩) (o.dn + 3) c') :=
        ⟨HP.out.below b3 (k + 6), HF.out.trans (Fr.below b3 (k + 6)), HW.out.below b3 (k + 6), ((Fr.below b3 (k + 6)).box HY.out.1 HY.out.2).1, ((Fr.below b3 (k + 6)).box HY.out.1 HY.out.2).2, ownsRow_mono ho3 (Nat.zero_le _), fun i q => by rw [rl_new (own_ge ho3 q)]; exact fun q => by have := q.2; omega, fun i q => Nat.le_trans HF.out.t.size (own_ge ho3 q)⟩
      generalize rl L1 W2 (k + 6) = L3 at M3
      have M4 := M3.below hk (below_drewN w3 1)
      generalize rl L3 w3 (k + 6) = L4 at M4
      have hl4 : Lies (w3.drewN 1) (some ⟨g, 0, none⟩) (o.dn + 3) c' (o.Z ++ [201, 202, 203]) := Lies.owned M4.row
      have hle3 := hl4.hle
      have hS := sendN (M4.pl.n 1 hc) hlast o.to (some ⟨g, 0, none⟩) o.dn c' o.Z (hl4.first HI.out.li.hlen) (Nat.le_trans HI.out.le (by decide))
      have HSs : Hid (ShT _ (sendS (S 1) o.to o.Z)) := HSh.out M4.pl.short
      have p1 := M3.pl.cell 1 _ rfl
      have o5 := M3.o5
      have o6' := M3.o6
      have hsl : (o.dn : Int) ≤ c' := by omega
      have HM4 : Hid (Mid w0 w (w3.drewN 1) lab L4 k pb a b (.slice ba es.length bc) st _ S R es o w.heap.size _) := M4
      clear M3 M4 hl4 hrm HP HF HW HY c6 f6 o6 q6
      go_wp2_with fail
      refine wp_region_held_drew (S := fun w' => w'.cell? ⟨pb, 1, none⟩ = some (.pointer (some ⟨a 1, 0, none⟩)) ∧ w'.cell? ⟨w.heap.size, 5, none⟩ = some (.int .i64 o.to) ∧ w'.cell? ⟨w.heap.size, 6, none⟩ = some (.slice o.da o.dn o.dc)) (by kernel_rfl) ⟨p1, o5, o6'⟩ (fun hHeld => ?_)
      refine wpAnyH_take (i := 0) (oi := ⟨some 27, .move (.tmp 0), 66, "law.go:111", #[], none⟩) (v := (.pointer (some ⟨pb, 0, none⟩))) rfl (by kernel_rfl) (by kernel_rfl) (by kernel_rfl) (fun _ _ _ h => h) (Or.inl ⟨by rfl, fun _ _ => by rfl⟩) hHeld ?_
      simp only [Act.put, List.setIfInBounds_toArray, List.set_cons_zero, List.set_cons_succ]
      refine wpAnyH_take (i := 1) (oi := ⟨some 28, .move (.tmp 1), 3, "law.go:111", #[], none⟩) (v := (.int .i64 1)) rfl (by kernel_rfl) (by kernel_rfl) (by kernel_rfl) (fun _ _ _ h => h) (Or.inl ⟨by rfl, fun _ _ => by rfl⟩) hHeld ?_
      simp only [Act.put, List.setIfInBounds_toArray, List.set_cons_zero, List.set_cons_succ]
      refine wpAnyH_take (i := 2) (oi := ⟨some 29, .nilCheck (.tmp 27), 0, "law.go:111", #[⟨0, .data⟩], none⟩) (v := (.pointer (some ⟨pb, 0, none⟩))) rfl (by kernel_rfl) (by kernel_rfl) (by kernel_rfl) (fun _ _ _ h => h) (Or.inl ⟨by rfl, fun _ _ => by rfl⟩) hHeld ?_
      simp only [Act.put, List.setIfInBounds_toArray, List.set_cons_zero, List.set_cons_succ]
      refine wpAnyH_take (i := 3) (oi := ⟨some 30, .fieldAddr 71 (.tmp 29) 0, 0, "law.go:111", #[⟨2, .data⟩], none⟩) (v := (.pointer (some ⟨pb, 0, none⟩))) rfl (by kernel_rfl) (by kernel_rfl) (by kernel_rfl) (fun _ _ _ h => h) (Or.inl ⟨by rfl, fun _ _ => by rfl⟩) hHeld ?_
      simp only [Act.put, List.setIfInBounds_toArray, List.set_cons_zero, List.set_cons_succ]
      refine wpAnyH_take (i := 4) (oi := ⟨some 31, .indexAddr 67 (.tmp 30) (.tmp 28), 0, "law.go:111", #[⟨3, .data⟩, ⟨1, .data⟩], none⟩) (v := (.pointer (some ⟨pb, 1, none⟩))) rfl (by kernel_rfl) (by kernel_rfl) (by kernel_rfl) (fun _ _ _ h => h) (Or.inl ⟨by rfl, fun w' h' => by unfold execOp; go_simp⟩) hHeld ?_
      simp only [Act.put, List.setIfInBounds_toArray, List.set_cons_zero, List.set_cons_succ]
      refine wpAnyH_take (i := 5) (oi := ⟨some 32, .load 24 (.tmp 31), 24, "law.go:111", #[⟨4, .data⟩], none⟩) (v := (.pointer (some ⟨a 1, 0, none⟩))) rfl (by kernel_rfl) (by kernel_rfl) (by kernel_rfl) (fun _ _ _ h => h) (Or.inl ⟨by rfl, fun w' h' => by have e1 := h'.1; have e2 := h'.2.1; have e3 := h'.2.2; unfold execOp; go_simp⟩) hHeld ?_
      simp only [Act.put, List.setIfInBounds_toArray, List.set_cons_zero, List.set_cons_succ]
      refine wpAnyH_take (i := 6) (oi := ⟨some 33, .fieldAddr 59 (.tmp 5) 5, 0, "law.go:111", #[], none⟩) (v := (.pointer (some ⟨w.heap.size, 5, none⟩))) rfl (by kernel_rfl) (by kernel_rfl) (by kernel_rfl) (fun _ _ _ h => h) (Or.inl ⟨by rfl, fun _ _ => by rfl⟩) hHeld ?_
      simp only [Act.put, List.setIfInBounds_toArray, List.set_cons_zero, List.set_cons_succ]
      refine wpAnyH_take (i := 7) (oi := ⟨some 34, .load 3 (.tmp 33), 3, "law.go:111", #[⟨6, .data⟩], none⟩) (v := (.int .i64 o.to)) rfl (by kernel_rfl) (by kernel_rfl) (by kernel_rfl) (fun _ _ _ h => h) (Or.inl ⟨by rfl, fun w' h' => by have e1 := h'.1; have e2 := h'.2.1; have e3 := h'.2.2; unfold execOp; go_simp⟩) hHeld ?_
      simp only [Act.put, List.setIfInBounds_toArray, List.set_cons_zero, List.set_cons_succ]
      refine wpAnyH_take (i := 8) (oi := ⟨some 35, .move (.tmp 7), 22, "law.go:111", #[], none⟩) (v := (.slice (some ⟨g, 0, none⟩) (o.dn + 3) c')) rfl (by kernel_rfl) (by kernel_rfl) (by kernel_rfl) (fun _ _ _ h => h) (Or.inl ⟨by rfl, fun _ _ => by rfl⟩) hHeld ?_
      simp only [Act.put, List.setIfInBounds_toArray, List.set_cons_zero, List.set_cons_succ]
      refine wpAnyH_take (i := 9) (oi := ⟨some 36, .fieldAddr 59 (.tmp 5) 6, 0, "law.go:111", #[], none⟩) (v := (.pointer (some ⟨w.heap.size, 6, none⟩))) rfl (by kernel_rfl) (by kernel_rfl) (by kernel_rfl) (fun _ _ _ h => h) (Or.inl ⟨by rfl, fun _ _ => by rfl⟩) hHeld ?_
      simp only [Act.put, List.setIfInBounds_toArray, List.set_cons_zero, List.set_cons_succ]
      refine wpAnyH_take (i := 10) (oi := ⟨some 37, .load 22 (.tmp 36), 22, "law.go:111", #[⟨9, .data⟩], none⟩) (v := (.slice o.da o.dn o.dc)) rfl (by kernel_rfl) (by kernel_rfl) (by kernel_rfl) (fun _ _ _ h => h) (Or.inl ⟨by rfl, fun w' h' => by have e1 := h'.1; have e2 := h'.2.1; have e3 := h'.2.2; unfold execOp; go_simp⟩) hHeld ?_
      simp only [Act.put, List.setIfInBounds_toArray, List.set_cons_zero, List.set_cons_succ]
      refine wpAnyH_take (i := 11) (oi := ⟨some 38, .call ⟨.builtin .len, #[.tmp 37], #[22]⟩, 3, "law.go:111", #[⟨10, .data⟩], none⟩) (v := (.int .i64 o.dn)) rfl (by kernel_rfl) (by kernel_rfl) (by kernel_rfl) (fun _ _ _ h => h) (Or.inl ⟨by rfl, fun w' h' => by unfold execOp; go_simp⟩) hHeld ?_
      simp only [Act.put, List.setIfInBounds_toArray, List.set_cons_zero, List.set_cons_succ]
      refine wpAnyH_take (i := 12) (oi := ⟨some 39, .slice 22 (.tmp 35) none (some (.tmp 38)) none, 22, "law.go:111", #[⟨8, .data⟩, ⟨11, .data⟩], none⟩) (v := (.slice (some ⟨g, 0, none⟩) o.dn c')) rfl (by kernel_rfl) (by kernel_rfl) (by kernel_rfl) (fun _ _ _ h => h) (Or.inl ⟨by rfl, fun w' h' => by unfold execOp; go_simp⟩) hHeld ?_
      simp only [Act.put, List.setIfInBounds_toArray, List.set_cons_zero, List.set_cons_succ]
      refine wpAnyH_take (i := 13) (oi := ⟨some 40, .build 28 #[(0, .tmp 34), (1, .tmp 39)], 28, "law.go:111", #[⟨7, .data⟩, ⟨12, .data⟩], none⟩) (v := (.agg #[.int .i64 o.to, (.slice (some ⟨g, 0, none⟩) o.dn c')])) rfl (by kernel_rfl) (by kernel_rfl) (by kernel_rfl) (fun _ _ _ h => h) (Or.inl ⟨by rfl, fun w' h' => by unfold execOp; go_simp⟩) hHeld ?_
      simp only [Act.put, List.setIfInBounds_toArray, List.set_cons_zero, List.set_cons_succ]
      refine wpAnyH_ready (rs := [14]) (by kernel_rfl) (by simp) ?_
      refine AllReadyH.cons (o := ⟨some 41, .call ⟨.value (.func 11), #[.tmp 32, .tmp 40], #[24, 28]⟩, 3, "law.go:111", #[⟨5, .data⟩, ⟨13, .data⟩], none⟩) rfl (fun KK hK => ?_) (AllReadyH.nil)
      go_simp
      refine hS.mono ?_
      rintro e w5 ⟨rfl, hN5, t5⟩
      obtain ⟨P5, F5⟩ := HM4.out.pl.stepN hc hN5 t5 (fun i hi _ => rl_old hi) HSs.out
      have M5 := HM4.out.step hk P5 F5
      have x0 := P5.cell 1 _ rfl
      have x2 := P5.cell 3 _ rfl
      have x5 := M5.o5
      have x6 := M5.o6
      have HM5 : Hid (Mid w0 w w5 lab _ k pb a b (.slice ba es.length bc) st _ _ R es o w.heap.size _) := M5
      clear hS M5 P5 F5 hN5 t5 HM4
      go_wp2_with fail
      refine hK.out _ _ ⟨x0, x5, x6⟩ (fun hHeld => ?_)
      clear hK KK
      try simp only [Act.put, List.setIfInBounds_toArray, List.set_cons_zero, List.set_cons_succ]
      refine wpAnyH_take (i := 15) (oi := ⟨some 8, .assign (.tmp 41), 3, "law.go:111", #[⟨14, .data⟩, ⟨14, .chain⟩, ⟨0, .phase⟩, ⟨1, .phase⟩, ⟨2, .phase⟩, ⟨3, .phase⟩, ⟨4, .phase⟩, ⟨5, .phase⟩, ⟨6, .phase⟩, ⟨7, .phase⟩, ⟨8, .phase⟩, ⟨9, .phase⟩, ⟨10, .phase⟩, ⟨11, .phase⟩, ⟨12, .phase⟩, ⟨13, .phase⟩, ⟨14, .phase⟩], none⟩) (v := (.int .i64 (sendA (S 1)))) rfl (by kernel_rfl) (by kernel_rfl) (by kernel_rfl) (fun _ _ _ h => h) (Or.inl ⟨by rfl, fun _ _ => by rfl⟩) hHeld ?_
      simp only [Act.put, List.setIfInBounds_toArray, List.set_cons_zero, List.set_cons_succ]
      refine wpAnyH_done (by kernel_rfl) ?_ _
      go_wp2_with fail
      have M6 := HM5.out.below hk (below_drewN w5 1)
      have i6 := hO _ M6.wk.b
      have hD := dsendN (M6.pl.d 1 hc) (by rw [hR]; exact hlast) o.to o.da o.dn o.dc o.Z i6.li (Nat.le_trans HI.out.le (by decide))
      rw [hR] at hD
      have HM6 : Hid (Mid w0 w (w5.drewN 1) lab _ k pb a b (.slice ba es.length bc) st _ _ R es o w.heap.size _) := M6
      clear M6 HM5 i6
      refine wp_region_held_drew (S := fun w' => w'.cell? ⟨pb, 3, none⟩ = some (.pointer (some ⟨b 1, 0, none⟩)) ∧ w'.cell? ⟨w.heap.size, 5, none⟩ = some (.int .i64 o.to) ∧ w'.cell? ⟨w.heap.size, 6, none⟩ = some (.slice o.da o.dn o.dc)) (by kernel_rfl) ⟨x2, x5, x6⟩ (fun hHeld => ?_)
      refine wpAnyH_take (i := 0) (oi := ⟨some 42, .move (.tmp 0), 66, "law.go:112", #[], none⟩) (v := (.pointer (some ⟨pb, 0, none⟩))) rfl (by kernel_rfl) (by kernel_rfl) (by kernel_rfl) (fun _ _ _ h => h) (Or.inl ⟨by rfl, fun _ _ => by rfl⟩) hHeld ?_
      simp only [Act.put, List.setIfInBounds_toArray, List.set_cons_zero, List.set_cons_succ]
      refine wpAnyH_take (i := 1) (oi := ⟨some 43, .move (.tmp 1), 3, "law.go:112", #[], none⟩) (v := (.int .i64 1)) rfl (by kernel_rfl) (by kernel_rfl) (by kernel_rfl) (fun _ _ _ h => h) (Or.inl ⟨by rfl, fun _ _ => by rfl⟩) hHeld ?_
      simp only [Act.put, List.setIfInBounds_toArray, List.set_cons_zero, List.set_cons_succ]
      refine wpAnyH_take (i := 2) (oi := ⟨some 44, .nilCheck (.tmp 42), 0, "law.go:112", #[⟨0, .data⟩], none⟩) (v := (.pointer (some ⟨pb, 0, none⟩))) rfl (by kernel_rfl) (by kernel_rfl) (by kernel_rfl) (fun _ _ _ h => h) (Or.inl ⟨by rfl, fun _ _ => by rfl⟩) hHeld ?_
      simp only [Act.put, List.setIfInBounds_toArray, List.set_cons_zero, List.set_cons_succ]
      refine wpAnyH_take (i := 3) (oi := ⟨some 45, .fieldAddr 71 (.tmp 44) 1, 0, "law.go:112", #[⟨2, .data⟩], none⟩) (v := (.pointer (some ⟨pb, 2, none⟩))) rfl (by kernel_rfl) (by kernel_rfl) (by kernel_rfl) (fun _ _ _ h => h) (Or.inl ⟨by rfl, fun _ _ => by rfl⟩) hHeld ?_
      simp only [Act.put, List.setIfInBounds_toArray, List.set_cons_zero, List.set_cons_succ]
      refine wpAnyH_take (i := 4) (oi := ⟨some 46, .indexAddr 68 (.tmp 45) (.tmp 43), 0, "law.go:112", #[⟨3, .data⟩, ⟨1, .data⟩], none⟩) (v := (.pointer (some ⟨pb, 3, none⟩))) rfl (by kernel_rfl) (by kernel_rfl) (by kernel_rfl) (fun _ _ _ h => h) (Or.inl ⟨by rfl, fun w' h' => by unfold execOp; go_simp⟩) hHeld ?_
      simp only [Act.put, List.setIfInBounds_toArray, List.set_cons_zero, List.set_cons_succ]
      refine wpAnyH_take (i := 5) (oi := ⟨some 47, .load 52 (.tmp 46), 52, "law.go:112", #[⟨4, .data⟩], none⟩) (v := (.pointer (some ⟨b 1, 0, none⟩))) rfl (by kernel_rfl) (by kernel_rfl) (by kernel_rfl) (fun _ _ _ h => h) (Or.inl ⟨by rfl, fun w' h' => by have e1 := h'.1; have e2 := h'.2.1; have e3 := h'.2.2; unfold execOp; go_simp⟩) hHeld ?_
      simp only [Act.put, List.setIfInBounds_toArray, List.set_cons_zero, List.set_cons_succ]
      refine wpAnyH_take (i := 6) (oi := ⟨some 48, .fieldAddr 59 (.tmp 5) 5, 0, "law.go:112", #[], none⟩) (v := (.pointer (some ⟨w.heap.size, 5, none⟩))) rfl (by kernel_rfl) (by kernel_rfl) (by kernel_rfl) (fun _ _ _ h => h) (Or.inl ⟨by rfl, fun _ _ => by rfl⟩) hHeld ?_
      simp only [Act.put, List.setIfInBounds_toArray, List.set_cons_zero, List.set_cons_succ]
      refine wpAnyH_take (i := 7) (oi := ⟨some 49, .load 3 (.tmp 48), 3, "law.go:112", #[⟨6, .data⟩], none⟩) (v := (.int .i64 o.to)) rfl (by kernel_rfl) (by kernel_rfl) (by kernel_rfl) (fun _ _ _ h => h) (Or.inl ⟨by rfl, fun w' h' => by have e1 := h'.1; have e2 := h'.2.1; have e3 := h'.2.2; unfold execOp; go_simp⟩) hHeld ?_
      simp only [Act.put, List.setIfInBounds_toArray, List.set_cons_zero, List.set_cons_succ]
      refine wpAnyH_take (i := 8) (oi := ⟨some 50, .fieldAddr 59 (.tmp 5) 6, 0, "law.go:112", #[], none⟩) (v := (.pointer (some ⟨w.heap.size, 6, none⟩))) rfl (by kernel_rfl) (by kernel_rfl) (by kernel_rfl) (fun _ _ _ h => h) (Or.inl ⟨by rfl, fun _ _ => by rfl⟩) hHeld ?_
      simp only [Act.put, List.setIfInBounds_toArray, List.set_cons_zero, List.set_cons_succ]
      refine wpAnyH_take (i := 9) (oi := ⟨some 51, .load 22 (.tmp 50), 22, "law.go:112", #[⟨8, .data⟩], none⟩) (v := (.slice o.da o.dn o.dc)) rfl (by kernel_rfl) (by kernel_rfl) (by kernel_rfl) (fun _ _ _ h => h) (Or.inl ⟨by rfl, fun w' h' => by have e1 := h'.1; have e2 := h'.2.1; have e3 := h'.2.2; unfold execOp; go_simp⟩) hHeld ?_
      simp only [Act.put, List.setIfInBounds_toArray, List.set_cons_zero, List.set_cons_succ]
      refine wpAnyH_take (i := 10) (oi := ⟨some 52, .build 28 #[(0, .tmp 49), (1, .tmp 51)], 28, "law.go:112", #[⟨7, .data⟩, ⟨9, .data⟩], none⟩) (v := (.agg #[.int .i64 o.to, (.slice o.da o.dn o.dc)])) rfl (by kernel_rfl) (by kernel_rfl) (by kernel_rfl) (fun _ _ _ h => h) (Or.inl ⟨by rfl, fun w' h' => by unfold execOp; go_simp⟩) hHeld ?_
      simp only [Act.put, List.setIfInBounds_toArray, List.set_cons_zero, List.set_cons_succ]
      refine wpAnyH_ready (rs := [11]) (by kernel_rfl) (by simp) ?_
      refine AllReadyH.cons (o := ⟨some 53, .call ⟨.value (.func 24), #[.tmp 47, .tmp 52], #[52, 28]⟩, 3, "law.go:112", #[⟨5, .data⟩, ⟨10, .data⟩], none⟩) rfl (fun KK hK => ?_) (AllReadyH.nil)
      go_simp
      refine hD.mono ?_
      rintro e w7 ⟨rfl, hN7, t7⟩
      obtain ⟨P7, F7⟩ := HM6.out.pl.stepD hc hN7 t7 (fun i hi _ => rl_old hi)
      have M7 := HM6.out.step hk P7 F7
      have y0 := P7.cell 3 _ rfl
      have y4 := P7.cell 4 _ rfl
      have y6 := P7.cell 6 _ rfl
      have y5 := M7.o5
      have y7 := M7.o6
      have HM7 : Hid (Mid w0 w w7 lab _ k pb a b (.slice ba es.length bc) st _ _ _ es o w.heap.size _) := M7
      clear hD M7 P7 F7 hN7 t7 HM6
      go_wp2_with fail
      refine hK.out _ _ ⟨y0, y5, y7⟩ (fun hHeld => ?_)
      clear hK KK
      try simp only [Act.put, List.setIfInBounds_toArray, List.set_cons_zero, List.set_cons_succ]
      refine wpAnyH_take (i := 12) (oi := ⟨some 9, .assign (.tmp 53), 3, "law.go:112", #[⟨11, .data⟩, ⟨11, .chain⟩, ⟨0, .phase⟩, ⟨1, .phase⟩, ⟨2, .phase⟩, ⟨3, .phase⟩, ⟨4, .phase⟩, ⟨5, .phase⟩, ⟨6, .phase⟩, ⟨7, .phase⟩, ⟨8, .phase⟩, ⟨9, .phase⟩, ⟨10, .phase⟩, ⟨11, .phase⟩], none⟩) (v := (.int .i64 (sendA (S 1)))) rfl (by kernel_rfl) (by kernel_rfl) (by kernel_rfl) (fun _ _ _ h => h) (Or.inl ⟨by rfl, fun _ _ => by rfl⟩) hHeld ?_
      simp only [Act.put, List.setIfInBounds_toArray, List.set_cons_zero, List.set_cons_succ]
      refine wpAnyH_done (by kernel_rfl) ?_ _
      have i7 := hO _ HM7.out.wk.b
      have hr8 := roomy_any o.da o.dn o.dc o.Z w7 i7.le i7.li
      clear i7
      go_wp2_with fail
      refine hr8.mono ?_
      rintro e w8 ⟨g2, c2, rfl, ho8, b8⟩
      have M8 := HM7.out.below hk b8
      have hs8 := same_any (some ⟨g, 0, none⟩) (some ⟨g2, 0, none⟩) (o.dn + 3) (o.dn + 3) c' c2 (o.Z ++ [201, 202, 203]) (o.Z ++ [201, 202, 203]) w8 (by have := HI.out.le; omega) (Lies.owned M8.row) (Lies.owned ho8)
      have HM8 : Hid (Mid w0 w w8 lab _ k pb a b (.slice ba es.length bc) st _ _ _ es o w.heap.size _) := M8
      clear M8 HM7 hr8 y0 y4 y5 y6 y7 ho8 b8
      go_wp2_with fail
      refine hs8.mono ?_
      rintro e w9 ⟨rfl, m9, hw9⟩
      have b9 : Below w8.heap.size w8 w9 := by rw [hw9]; exact below_drewN w8 m9
      have M9 := HM8.out.below hk b9
      have p4 := M9.pl.cell 4 _ rfl
      have p6 := M9.pl.cell 6 _ rfl
      have HM9 : Hid (Mid w0 w w9 lab _ k pb a b (.slice ba es.length bc) st _ _ _ es o w.heap.size _) := M9
      have hdd : decide (o.Z ++ [201, 202, 203] = o.Z ++ [201, 202, 203]) = true := decide_eq_true rfl
      have hbb : (sendA (S 1) == sendA (S 1)) = true := by simp
      clear hw9 M9 HM8 hs8 b9
      by_cases hE : es.length < 900
      · have hEi : (es.length : Int) < 900 := by omega
        go_wp2_with fail
        go_ret
        exact ⟨rfl, _, _, _, _, by rw [hR]; exact HM9.out.pl, HM9.out.fr, Or.inl (Nat.le_refl _)⟩
      · have hEi : ¬ (es.length : Int) < 900 := by omega
        go_wp2_with fail
        go_ret
        exact ⟨rfl, _, _, _, _, by rw [hR]; exact HM9.out.pl, HM9.out.fr, Or.inl (Nat.le_refl _)⟩
  · have hqi : (o.dn : Int) ≤ 4096 := by omega
    have hqd : ¬ 4096 < (o.dn : Int) := by omega
    obtain rfl | rfl : c = 0 ∨ c = 1 := by omega
    · rw [show ((0 : Nat) : Int) = 0 from rfl]
      go_enter Try.func37, Try.ntmps37
      go_wp2_with fail
      refine hrm.mono ?_
      rintro e w3 ⟨g, c', rfl, ho3, b3⟩
      have M3 : Mid w0 w w3 lab (rl L1 W2 (k + 6)) k pb a b (.slice ba es.length bc) st _ S R es o w.heap.size (.slice (some ⟨g, 0, none⟩) (o.dn + 3) c') :=
        ⟨HP.out.below b3 (k + 6), HF.out.trans (Fr.below b3 (k + 6)), HW.out.below b3 (k + 6), ((Fr.below b3 (k + 6)).box HY.out.1 HY.out.2).1, ((Fr.below b3 (k + 6)).box HY.out.1 HY.out.2).2, ownsRow_mono ho3 (Nat.zero_le _), fun i q => by rw [rl_new (own_ge ho3 q)]; exact fun q => by have := q.2; omega, fun i q => Nat.le_trans HF.out.t.size (own_ge ho3 q)⟩
      generalize rl L1 W2 (k + 6) = L3 at M3
      have M4 := M3.below hk (below_drewN w3 1)
      generalize rl L3 w3 (k + 6) = L4 at M4
      have hl4 : Lies (w3.drewN 1) (some ⟨g, 0, none⟩) (o.dn + 3) c' (o.Z ++ [201, 202, 203]) := Lies.owned M4.row
      have hle3 := hl4.hle
      have hS := sendN (M4.pl.n 0 hc) hlast o.to (some ⟨g, 0, none⟩) o.dn c' o.Z (hl4.first HI.out.li.hlen) (Nat.le_trans HI.out.le (by decide))
      have HSs : Hid (ShT _ (sendS (S 0) o.to o.Z)) := HSh.out M4.pl.short
      have p0 := M3.pl.cell 0 _ rfl
      have o5 := M3.o5
      have o6' := M3.o6
      have hsl : (o.dn : Int) ≤ c' := by omega
      have HM4 : Hid (Mid w0 w (w3.drewN 1) lab L4 k pb a b (.slice ba es.length bc) st _ S R es o w.heap.size _) := M4
      clear M3 M4 hl4 hrm HP HF HW HY c6 f6 o6 q6
      go_wp2_with fail
      refine wp_region_held_drew (S := fun w' => w'.cell? ⟨pb, 0, none⟩ = some (.pointer (some ⟨a 0, 0, none⟩)) ∧ w'.cell? ⟨w.heap.size, 5, none⟩ = some (.int .i64 o.to) ∧ w'.cell? ⟨w.heap.size, 6, none⟩ = some (.slice o.da o.dn o.dc)) (by kernel_rfl) ⟨p0, o5, o6'⟩ (fun hHeld => ?_)
      refine wpAnyH_take (i := 0) (oi := ⟨some 27, .move (.tmp 0), 66, "law.go:111", #[], none⟩) (v := (.pointer (some ⟨pb, 0, none⟩))) rfl (by kernel_rfl) (by kernel_rfl) (by kernel_rfl) (fun _ _ _ h => h) (Or.inl ⟨by rfl, fun _ _ => by rfl⟩) hHeld ?_
      simp only [Act.put, List.setIfInBounds_toArray, List.set_cons_zero, List.set_cons_succ]
      refine wpAnyH_take (i := 1) (oi := ⟨some 28, .move (.tmp 1), 3, "law.go:111", #[], none⟩) (v := (.int .i64 0)) rfl (by kernel_rfl) (by kernel_rfl) (by kernel_rfl) (fun _ _ _ h => h) (Or.inl ⟨by rfl, fun _ _ => by rfl⟩) hHeld ?_
      simp only [Act.put, List.setIfInBounds_toArray, List.set_cons_zero, List.set_cons_succ]
      refine wpAnyH_take (i := 2) (oi := ⟨some 29, .nilCheck (.tmp 27), 0, "law.go:111", #[⟨0, .data⟩], none⟩) (v := (.pointer (some ⟨pb, 0, none⟩))) rfl (by kernel_rfl) (by kernel_rfl) (by kernel_rfl) (fun _ _ _ h => h) (Or.inl ⟨by rfl, fun _ _ => by rfl⟩) hHeld ?_
      simp only [Act.put, List.setIfInBounds_toArray, List.set_cons_zero, List.set_cons_succ]
      refine wpAnyH_take (i := 3) (oi := ⟨some 30, .fieldAddr 71 (.tmp 29) 0, 0, "law.go:111", #[⟨2, .data⟩], none⟩) (v := (.pointer (some ⟨pb, 0, none⟩))) rfl (by kernel_rfl) (by kernel_rfl) (by kernel_rfl) (fun _ _ _ h => h) (Or.inl ⟨by rfl, fun _ _ => by rfl⟩) hHeld ?_
      simp only [Act.put, List.setIfInBounds_toArray, List.set_cons_zero, List.set_cons_succ]
      refine wpAnyH_take (i := 4) (oi := ⟨some 31, .indexAddr 67 (.tmp 30) (.tmp 28), 0, "law.go:111", #[⟨3, .data⟩, ⟨1, .data⟩], none⟩) (v := (.pointer (some ⟨pb, 0, none⟩))) rfl (by kernel_rfl) (by kernel_rfl) (by kernel_rfl) (fun _ _ _ h => h) (Or.inl ⟨by rfl, fun w' h' => by unfold execOp; go_simp⟩) hHeld ?_
      simp only [Act.put, List.setIfInBounds_toArray, List.set_cons_zero, List.set_cons_succ]
      refine wpAnyH_take (i := 5) (oi := ⟨some 32, .load 24 (.tmp 31), 24, "law.go:111", #[⟨4, .data⟩], none⟩) (v := (.pointer (some ⟨a 0, 0, none⟩))) rfl (by kernel_rfl) (by kernel_rfl) (by kernel_rfl) (fun _ _ _ h => h) (Or.inl ⟨by rfl, fun w' h' => by have e1 := h'.1; have e2 := h'.2.1; have e3 := h'.2.2; unfold execOp; go_simp⟩) hHeld ?_
      simp only [Act.put, List.setIfInBounds_toArray, List.set_cons_zero, List.set_cons_succ]
      refine wpAnyH_take (i := 6) (oi := ⟨some 33, .fieldAddr 59 (.tmp 5) 5, 0, "law.go:111", #[], none⟩) (v := (.pointer (some ⟨w.heap.size, 5, none⟩))) rfl (by kernel_rfl) (by kernel_rfl) (by kernel_rfl) (fun _ _ _ h => h) (Or.inl ⟨by rfl, fun _ _ => by rfl⟩) hHeld ?_
      simp only [Act.put, List.setIfInBounds_toArray, List.set_cons_zero, List.set_cons_succ]
      refine wpAnyH_take (i := 7) (oi := ⟨some 34, .load 3 (.tmp 33), 3, "law.go:111", #[⟨6, .data⟩], none⟩) (v := (.int .i64 o.to)) rfl (by kernel_rfl) (by kernel_rfl) (by kernel_rfl) (fun _ _ _ h => h) (Or.inl ⟨by rfl, fun w' h' => by have e1 := h'.1; have e2 := h'.2.1; have e3 := h'.2.2; unfold execOp; go_simp⟩) hHeld ?_
      simp only [Act.put, List.setIfInBounds_toArray, List.set_cons_zero, List.set_cons_succ]
      refine wpAnyH_take (i := 8) (oi := ⟨some 35, .move (.tmp 7), 22, "law.go:111", #[], none⟩) (v := (.slice (some ⟨g, 0, none⟩) (o.dn + 3) c')) rfl (by kernel_rfl) (by kernel_rfl) (by kernel_rfl) (fun _ _ _ h => h) (Or.inl ⟨by rfl, fun _ _ => by rfl⟩) hHeld ?_
      simp only [Act.put, List.setIfInBounds_toArray, List.set_cons_zero, List.set_cons_succ]
      refine wpAnyH_take (i := 9) (oi := ⟨some 36, .fieldAddr 59 (.tmp 5) 6, 0, "law.go:111", #[], none⟩) (v := (.pointer (some ⟨w.heap.size, 6, none⟩))) rfl (by kernel_rfl) (by kernel_rfl) (by kernel_rfl) (fun _ _ _ h => h) (Or.inl ⟨by rfl, fun _ _ => by rfl⟩) hHeld ?_
      simp only [Act.put, List.setIfInBounds_toArray, List.set_cons_zero, List.set_cons_succ]
      refine wpAnyH_take (i := 10) (oi := ⟨some 37, .load 22 (.tmp 36), 22, "law.go:111", #[⟨9, .data⟩], none⟩) (v := (.slice o.da o.dn o.dc)) rfl (by kernel_rfl) (by kernel_rfl) (by kernel_rfl) (fun _ _ _ h => h) (Or.inl ⟨by rfl, fun w' h' => by have e1 := h'.1; have e2 := h'.2.1; have e3 := h'.2.2; unfold execOp; go_simp⟩) hHeld ?_
      simp only [Act.put, List.setIfInBounds_toArray, List.set_cons_zero, List.set_cons_succ]
      refine wpAnyH_take (i := 11) (oi := ⟨some 38, .call ⟨.builtin .len, #[.tmp 37], #[22]⟩, 3, "law.go:111", #[⟨10, .data⟩], none⟩) (v := (.int .i64 o.dn)) rfl (by kernel_rfl) (by kernel_rfl) (by kernel_rfl) (fun _ _ _ h => h) (Or.inl ⟨by rfl, fun w' h' => by unfold execOp; go_simp⟩) hHeld ?_
      simp only [Act.put, List.setIfInBounds_toArray, List.set_cons_zero, List.set_cons_succ]
      refine wpAnyH_take (i := 12) (oi := ⟨some 39, .slice 22 (.tmp 35) none (some (.tmp 38)) none, 22, "law.go:111", #[⟨8, .data⟩, ⟨11, .data⟩], none⟩) (v := (.slice (some ⟨g, 0, none⟩) o.dn c')) rfl (by kernel_rfl) (by kernel_rfl) (by kernel_rfl) (fun _ _ _ h => h) (Or.inl ⟨by rfl, fun w' h' => by unfold execOp; go_simp⟩) hHeld ?_
      simp only [Act.put, List.setIfInBounds_toArray, List.set_cons_zero, List.set_cons_succ]
      refine wpAnyH_take (i := 13) (oi := ⟨some 40, .build 28 #[(0, .tmp 34), (1, .tmp 39)], 28, "law.go:111", #[⟨7, .data⟩, ⟨12, .data⟩], none⟩) (v := (.agg #[.int .i64 o.to, (.slice (some ⟨g, 0, none⟩) o.dn c')])) rfl (by kernel_rfl) (by kernel_rfl) (by kernel_rfl) (fun _ _ _ h => h) (Or.inl ⟨by rfl, fun w' h' => by unfold execOp; go_simp⟩) hHeld ?_
      simp only [Act.put, List.setIfInBounds_toArray, List.set_cons_zero, List.set_cons_succ]
      refine wpAnyH_ready (rs := [14]) (by kernel_rfl) (by simp) ?_
      refine AllReadyH.cons (o := ⟨some 41, .call ⟨.value (.func 11), #[.tmp 32, .tmp 40], #[24, 28]⟩, 3, "law.go:111", #[⟨5, .data⟩, ⟨13, .data⟩], none⟩) rfl (fun KK hK => ?_) (AllReadyH.nil)
      go_simp
      refine hS.mono ?_
      rintro e w5 ⟨rfl, hN5, t5⟩
      obtain ⟨P5, F5⟩ := HM4.out.pl.stepN hc hN5 t5 (fun i hi _ => rl_old hi) HSs.out
      have M5 := HM4.out.step hk P5 F5
      have x0 := P5.cell 0 _ rfl
      have x2 := P5.cell 2 _ rfl
      have x5 := M5.o5
      have x6 := M5.o6
      have HM5 : Hid (Mid w0 w w5 lab _ k pb a b (.slice ba es.length bc) st _ _ R es o w.heap.size _) := M5
      clear hS M5 P5 F5 hN5 t5 HM4
      go_wp2_with fail
      refine hK.out _ _ ⟨x0, x5, x6⟩ (fun hHeld => ?_)
      clear hK KK
      try simp only [Act.put, List.setIfInBounds_toArray, List.set_cons_zero, List.set_cons_succ]
      refine wpAnyH_take (i := 15) (oi := ⟨some 8, .assign (.tmp 41), 3, "law.go:111", #[⟨14, .data⟩, ⟨14, .chain⟩, ⟨0, .phase⟩, ⟨1, .phase⟩, ⟨2, .phase⟩, ⟨3, .phase⟩, ⟨4, .phase⟩, ⟨5, .phase⟩, ⟨6, .phase⟩, ⟨7, .phase⟩, ⟨8, .phase⟩, ⟨9, .phase⟩, ⟨10, .phase⟩, ⟨11, .phase⟩, ⟨12, .phase⟩, ⟨13, .phase⟩, ⟨14, .phase⟩], none⟩) (v := (.int .i64 (sendA (S 0)))) rfl (by kernel_rfl) (by kernel_rfl) (by kernel_rfl) (fun _ _ _ h => h) (Or.inl ⟨by rfl, fun _ _ => by rfl⟩) hHeld ?_
      simp only [Act.put, List.setIfInBounds_toArray, List.set_cons_zero, List.set_cons_succ]
      refine wpAnyH_done (by kernel_rfl) ?_ _
      go_wp2_with fail
      have M6 := HM5.out.below hk (below_drewN w5 1)
      have i6 := hO _ M6.wk.b
      have hD := dsendN (M6.pl.d 0 hc) (by rw [hR]; exact hlast) o.to o.da o.dn o.dc o.Z i6.li (Nat.le_trans HI.out.le (by decide))
      rw [hR] at hD
      have HM6 : Hid (Mid w0 w (w5.drewN 1) lab _ k pb a b (.slice ba es.length bc) st _ _ R es o w.heap.size _) := M6
      clear M6 HM5 i6
      refine wp_region_held_drew (S := fun w' => w'.cell? ⟨pb, 2, none⟩ = some (.pointer (some ⟨b 0, 0, none⟩)) ∧ w'.cell? ⟨w.heap.size, 5, none⟩ = some (.int .i64 o.to) ∧ w'.cell? ⟨w.heap.size, 6, none⟩ = some (.slice o.da o.dn o.dc)) (by kernel_rfl) ⟨x2, x5, x6⟩ (fun hHeld => ?_)
      refine wpAnyH_take (i := 0) (oi := ⟨some 42, .move (.tmp 0), 66, "law.go:112", #[], none⟩) (v := (.pointer (some ⟨pb, 0, none⟩))) rfl (by kernel_rfl) (by kernel_rfl) (by kernel_rfl) (fun _ _ _ h => h) (Or.inl ⟨by rfl, fun _ _ => by rfl⟩) hHeld ?_
      simp only [Act.put, List.setIfInBounds_toArray, List.set_cons_zero, List.set_cons_succ]
      refine wpAnyH_take (i := 1) (oi := ⟨some 43, .move (.tmp 1), 3, "law.go:112", #[], none⟩) (v := (.int .i64 0)) rfl (by kernel_rfl) (by kernel_rfl) (by kernel_rfl) (fun _ _ _ h => h) (Or.inl ⟨by rfl, fun _ _ => by rfl⟩) hHeld ?_
      simp only [Act.put, List.setIfInBounds_toArray, List.set_cons_zero, List.set_cons_succ]
      refine wpAnyH_take (i := 2) (oi := ⟨some 44, .nilCheck (.tmp 42), 0, "law.go:112", #[⟨0, .data⟩], none⟩) (v := (.pointer (some ⟨pb, 0, none⟩))) rfl (by kernel_rfl) (by kernel_rfl) (by kernel_rfl) (fun _ _ _ h => h) (Or.inl ⟨by rfl, fun _ _ => by rfl⟩) hHeld ?_
      simp only [Act.put, List.setIfInBounds_toArray, List.set_cons_zero, List.set_cons_succ]
      refine wpAnyH_take (i := 3) (oi := ⟨some 45, .fieldAddr 71 (.tmp 44) 1, 0, "law.go:112", #[⟨2, .data⟩], none⟩) (v := (.pointer (some ⟨pb, 2, none⟩))) rfl (by kernel_rfl) (by kernel_rfl) (by kernel_rfl) (fun _ _ _ h => h) (Or.inl ⟨by rfl, fun _ _ => by rfl⟩) hHeld ?_
      simp only [Act.put, List.setIfInBounds_toArray, List.set_cons_zero, List.set_cons_succ]
      refine wpAnyH_take (i := 4) (oi := ⟨some 46, .indexAddr 68 (.tmp 45) (.tmp 43), 0, "law.go:112", #[⟨3, .data⟩, ⟨1, .data⟩], none⟩) (v := (.pointer (some ⟨pb, 2, none⟩))) rfl (by kernel_rfl) (by kernel_rfl) (by kernel_rfl) (fun _ _ _ h => h) (Or.inl ⟨by rfl, fun w' h' => by unfold execOp; go_simp⟩) hHeld ?_
      simp only [Act.put, List.setIfInBounds_toArray, List.set_cons_zero, List.set_cons_succ]
      refine wpAnyH_take (i := 5) (oi := ⟨some 47, .load 52 (.tmp 46), 52, "law.go:112", #[⟨4, .data⟩], none⟩) (v := (.pointer (some ⟨b 0, 0, none⟩))) rfl (by kernel_rfl) (by kernel_rfl) (by kernel_rfl) (fun _ _ _ h => h) (Or.inl ⟨by rfl, fun w' h' => by have e1 := h'.1; have e2 := h'.2.1; have e3 := h'.2.2; unfold execOp; go_simp⟩) hHeld ?_
      simp only [Act.put, List.setIfInBounds_toArray, List.set_cons_zero, List.set_cons_succ]
      refine wpAnyH_take (i := 6) (oi := ⟨some 48, .fieldAddr 59 (.tmp 5) 5, 0, "law.go:112", #[], none⟩) (v := (.pointer (some ⟨w.heap.size, 5, none⟩))) rfl (by kernel_rfl) (by kernel_rfl) (by kernel_rfl) (fun _ _ _ h => h) (Or.inl ⟨by rfl, fun _ _ => by rfl⟩) hHeld ?_
      simp only [Act.put, List.setIfInBounds_toArray, List.set_cons_zero, List.set_cons_succ]
      refine wpAnyH_take (i := 7) (oi := ⟨some 49, .load 3 (.tmp 48), 3, "law.go:112", #[⟨6, .data⟩], none⟩) (v := (.int .i64 o.to)) rfl (by kernel_rfl) (by kernel_rfl) (by kernel_rfl) (fun _ _ _ h => h) (Or.inl ⟨by rfl, fun w' h' => by have e1 := h'.1; have e2 := h'.2.1; have e3 := h'.2.2; unfold execOp; go_simp⟩) hHeld ?_
      simp only [Act.put, List.setIfInBounds_toArray, List.set_cons_zero, List.set_cons_succ]
      refine wpAnyH_take (i := 8) (oi := ⟨some 50, .fieldAddr 59 (.tmp 5) 6, 0, "law.go:112", #[], none⟩) (v := (.pointer (some ⟨w.heap.size, 6, none⟩))) rfl (by kernel_rfl) (by kernel_rfl) (by kernel_rfl) (fun _ _ _ h => h) (Or.inl ⟨by rfl, fun _ _ => by rfl⟩) hHeld ?_
      simp only [Act.put, List.setIfInBounds_toArray, List.set_cons_zero, List.set_cons_succ]
      refine wpAnyH_take (i := 9) (oi := ⟨some 51, .load 22 (.tmp 50), 22, "law.go:112", #[⟨8, .data⟩], none⟩) (v := (.slice o.da o.dn o.dc)) rfl (by kernel_rfl) (by kernel_rfl) (by kernel_rfl) (fun _ _ _ h => h) (Or.inl ⟨by rfl, fun w' h' => by have e1 := h'.1; have e2 := h'.2.1; have e3 := h'.2.2; unfold execOp; go_simp⟩) hHeld ?_
      simp only [Act.put, List.setIfInBounds_toArray, List.set_cons_zero, List.set_cons_succ]
      refine wpAnyH_take (i := 10) (oi := ⟨some 52, .build 28 #[(0, .tmp 49), (1, .tmp 51)], 28, "law.go:112", #[⟨7, .data⟩, ⟨9, .data⟩], none⟩) (v := (.agg #[.int .i64 o.to, (.slice o.da o.dn o.dc)])) rfl (by kernel_rfl) (by kernel_rfl) (by kernel_rfl) (fun _ _ _ h => h) (Or.inl ⟨by rfl, fun w' h' => by unfold execOp; go_simp⟩) hHeld ?_
      simp only [Act.put, List.setIfInBounds_toArray, List.set_cons_zero, List.set_cons_succ]
      refine wpAnyH_ready (rs := [11]) (by kernel_rfl) (by simp) ?_
      refine AllReadyH.cons (o := ⟨some 53, .call ⟨.value (.func 24), #[.tmp 47, .tmp 52], #[52, 28]⟩, 3, "law.go:112", #[⟨5, .data⟩, ⟨10, .data⟩], none⟩) rfl (fun KK hK => ?_) (AllReadyH.nil)
      go_simp
      refine hD.mono ?_
      rintro e w7 ⟨rfl, hN7, t7⟩
      obtain ⟨P7, F7⟩ := HM6.out.pl.stepD hc hN7 t7 (fun i hi _ => rl_old hi)
      have M7 := HM6.out.step hk P7 F7
      have y0 := P7.cell 2 _ rfl
      have y4 := P7.cell 4 _ rfl
      have y6 := P7.cell 6 _ rfl
      have y5 := M7.o5
      have y7 := M7.o6
      have HM7 : Hid (Mid w0 w w7 lab _ k pb a b (.slice ba es.length bc) st _ _ _ es o w.heap.size _) := M7
      clear hD M7 P7 F7 hN7 t7 HM6
      go_wp2_with fail
      refine hK.out _ _ ⟨y0, y5, y7⟩ (fun hHeld => ?_)
      clear hK KK
      try simp only [Act.put, List.setIfInBounds_toArray, List.set_cons_zero, List.set_cons_succ]
      refine wpAnyH_take (i := 12) (oi := ⟨some 9, .assign (.tmp 53), 3, "law.go:112", #[⟨11, .data⟩, ⟨11, .chain⟩, ⟨0, .phase⟩, ⟨1, .phase⟩, ⟨2, .phase⟩, ⟨3, .phase⟩, ⟨4, .phase⟩, ⟨5, .phase⟩, ⟨6, .phase⟩, ⟨7, .phase⟩, ⟨8, .phase⟩, ⟨9, .phase⟩, ⟨10, .phase⟩, ⟨11, .phase⟩], none⟩) (v := (.int .i64 (sendA (S 0)))) rfl (by kernel_rfl) (by kernel_rfl) (by kernel_rfl) (fun _ _ _ h => h) (Or.inl ⟨by rfl, fun _ _ => by rfl⟩) hHeld ?_
      simp only [Act.put, List.setIfInBounds_toArray, List.set_cons_zero, List.set_cons_succ]
      refine wpAnyH_done (by kernel_rfl) ?_ _
      have i7 := hO _ HM7.out.wk.b
      have hr8 := roomy_any o.da o.dn o.dc o.Z w7 i7.le i7.li
      clear i7
      go_wp2_with fail
      refine hr8.mono ?_
      rintro e w8 ⟨g2, c2, rfl, ho8, b8⟩
      have M8 := HM7.out.below hk b8
      have hs8 := same_any (some ⟨g, 0, none⟩) (some ⟨g2, 0, none⟩) (o.dn + 3) (o.dn + 3) c' c2 (o.Z ++ [201, 202, 203]) (o.Z ++ [201, 202, 203]) w8 (by have := HI.out.le; omega) (Lies.owned M8.row) (Lies.owned ho8)
      have HM8 : Hid (Mid w0 w w8 lab _ k pb a b (.slice ba es.length bc) st _ _ _ es o w.heap.size _) := M8
      clear M8 HM7 hr8 y0 y4 y5 y6 y7 ho8 b8
      go_wp2_with fail
      refine hs8.mono ?_
      rintro e w9 ⟨rfl, m9, hw9⟩
      have b9 : Below w8.heap.size w8 w9 := by rw [hw9]; exact below_drewN w8 m9
      have M9 := HM8.out.below hk b9
      have p4 := M9.pl.cell 4 _ rfl
      have p6 := M9.pl.cell 6 _ rfl
      have HM9 : Hid (Mid w0 w w9 lab _ k pb a b (.slice ba es.length bc) st _ _ _ es o w.heap.size _) := M9
      have hdd : decide (o.Z ++ [201, 202, 203] = o.Z ++ [201, 202, 203]) = true := decide_eq_true rfl
      have hbb : (sendA (S 0) == sendA (S 0)) = true := by simp
      clear hw9 M9 HM8 hs8 b9
      by_cases hE : es.length < 900
      · have hEi : (es.length : Int) < 900 := by omega
        have M10 := HM9.out.below hk (below_drewN w9 1)
        have hmk := mark_any M10.pl 0
        have hkp := fun m => keep_any M10.pl.bk _ (o.dn + 3) _ M10.row (fun i q r => M10.ru i q ⟨by omega, by omega⟩) (by omega) (by omega) m
        have HM10 : Hid (Mid w0 w (w9.drewN 1) lab _ k pb a b (.slice ba es.length bc) st _ _ _ es o w.heap.size _) := M10
        clear M10 HM9
        go_wp2_with fail
        refine wp_region_held_drew (S := fun _ => True) (by kernel_rfl) trivial (fun hHeld => ?_)
        clear hHeld
        refine wpAnyH_take (i := 0) (oi := ⟨some 72, .move (.tmp 0), 66, "law.go:115", #[], none⟩) (v := (.pointer (some ⟨pb, 0, none⟩))) rfl (by kernel_rfl) (by kernel_rfl) (by kernel_rfl) (fun _ _ _ h => h) (Or.inl ⟨by rfl, fun _ _ => by rfl⟩) trivial ?_
        simp only [Act.put, List.setIfInBounds_toArray, List.set_cons_zero, List.set_cons_succ]
        refine wpAnyH_take (i := 1) (oi := ⟨some 73, .move (.tmp 0), 66, "law.go:115", #[], none⟩) (v := (.pointer (some ⟨pb, 0, none⟩))) rfl (by kernel_rfl) (by kernel_rfl) (by kernel_rfl) (fun _ _ _ h => h) (Or.inl ⟨by rfl, fun _ _ => by rfl⟩) trivial ?_
        simp only [Act.put, List.setIfInBounds_toArray, List.set_cons_zero, List.set_cons_succ]
        refine wpAnyH_take (i := 2) (oi := ⟨some 74, .nilCheck (.tmp 73), 0, "law.go:115", #[⟨1, .data⟩], none⟩) (v := (.pointer (some ⟨pb, 0, none⟩))) rfl (by kernel_rfl) (by kernel_rfl) (by kernel_rfl) (fun _ _ _ h => h) (Or.inl ⟨by rfl, fun _ _ => by rfl⟩) trivial ?_
        simp only [Act.put, List.setIfInBounds_toArray, List.set_cons_zero, List.set_cons_succ]
        refine wpAnyH_take (i := 3) (oi := ⟨some 75, .fieldAddr 71 (.tmp 74) 2, 0, "law.go:115", #[⟨2, .data⟩], none⟩) (v := (.pointer (some ⟨pb, 4, none⟩))) rfl (by kernel_rfl) (by kernel_rfl) (by kernel_rfl) (fun _ _ _ h => h) (Or.inl ⟨by rfl, fun _ _ => by rfl⟩) trivial ?_
        simp only [Act.put, List.setIfInBounds_toArray, List.set_cons_zero, List.set_cons_succ]
        refine wpAnyH_take (i := 5) (oi := ⟨some 77, .move (.tmp 7), 22, "law.go:115", #[], none⟩) (v := (.slice (some ⟨g, 0, none⟩) (o.dn + 3) c')) rfl (by kernel_rfl) (by kernel_rfl) (by kernel_rfl) (fun _ _ _ h => h) (Or.inl ⟨by rfl, fun _ _ => by rfl⟩) trivial ?_
        simp only [Act.put, List.setIfInBounds_toArray, List.set_cons_zero, List.set_cons_succ]
        refine wpAnyH_take (i := 6) (oi := ⟨some 78, .move (.tmp 0), 66, "law.go:115", #[], none⟩) (v := (.pointer (some ⟨pb, 0, none⟩))) rfl (by kernel_rfl) (by kernel_rfl) (by kernel_rfl) (fun _ _ _ h => h) (Or.inl ⟨by rfl, fun _ _ => by rfl⟩) trivial ?_
        simp only [Act.put, List.setIfInBounds_toArray, List.set_cons_zero, List.set_cons_succ]
        refine wpAnyH_ready (rs := [4, 7]) (by kernel_rfl) (by simp) ?_
        refine AllReadyH.cons (o := ⟨some 76, .load 69 (.tmp 75), 69, "law.go:115", #[⟨3, .data⟩], none⟩) rfl (fun KK hK => ?_) (AllReadyH.cons (o := ⟨some 79, .call ⟨.value (.func 47), #[.tmp 78, .const (.int .i64 0)], #[66, 3]⟩, 5, "law.go:115", #[⟨6, .data⟩], none⟩) rfl (fun KK hK => ?_) (AllReadyH.nil))
        · go_simp
          refine hK.out _ _ trivial (fun hHeld => ?_)
          clear hK KK hHeld
          try simp only [Act.put, List.setIfInBounds_toArray, List.set_cons_zero, List.set_cons_succ]
          refine wpAnyH_ready (rs := [7]) (by kernel_rfl) (by simp) ?_
          refine AllReadyH.cons (o := ⟨some 79, .call ⟨.value (.func 47), #[.tmp 78, .const (.int .i64 0)], #[66, 3]⟩, 5, "law.go:115", #[⟨6, .data⟩], none⟩) rfl (fun KK hK => ?_) (AllReadyH.nil)
          go_simp
          refine hmk.mono ?_
          rintro e wm ⟨mm, rfl, rfl⟩
          go_wp2_with fail
          refine hK.out _ _ trivial (fun hHeld => ?_)
          clear hK KK hHeld
          try simp only [Act.put, List.setIfInBounds_toArray, List.set_cons_zero, List.set_cons_succ]
          refine wpAnyH_ready (rs := [8]) (by kernel_rfl) (by simp) ?_
          refine AllReadyH.cons (o := ⟨some 80, .call ⟨.value (.func 46), #[.tmp 76, .tmp 77, .tmp 79], #[69, 22, 5]⟩, 69, "law.go:115", #[⟨4, .data⟩, ⟨5, .data⟩, ⟨7, .data⟩, ⟨7, .chain⟩], none⟩) rfl (fun KK hK => ?_) (AllReadyH.nil)
          go_simp
          refine (hkp mm).mono ?_
          rintro e wk ⟨bv', rfl, K3⟩
          have HK3 : Hid (Kept3 _ _ _ _ _ _ _) := K3
          obtain ⟨fs, _, hB, hT⟩ := K3
          obtain ⟨ba', bc', hbv'⟩ := tl_slice hB.row
          generalize (es ++ fs).length = E' at hbv'
          clear hB
          subst hbv'
          have zk := (hT.block pb (heap_lt HM10.out.pl.box) HM10.out.pk).trans HM10.out.pl.box
          have fk : wk.frozen? ⟨pb, 4, none⟩ = false := by simp [World.frozen?, zk]
          have ck : wk.cell? ⟨pb, 4, none⟩ = some (.slice ba es.length bc) := by simp [World.cell?, zk]
          have HZk : Hid (wk.heap[pb]? = _) := zk
          clear zk hT
          go_wp2_with fail
          refine hK.out _ _ trivial (fun hHeld => ?_)
          clear hK KK hHeld
          try simp only [Act.put, List.setIfInBounds_toArray, List.set_cons_zero, List.set_cons_succ]
          refine wpAnyH_take (i := 9) (oi := ⟨some 81, .nilCheck (.tmp 72), 0, "law.go:115", #[⟨0, .data⟩, ⟨0, .phase⟩, ⟨1, .phase⟩, ⟨2, .phase⟩, ⟨3, .phase⟩, ⟨4, .phase⟩, ⟨5, .phase⟩, ⟨6, .phase⟩, ⟨7, .phase⟩, ⟨8, .phase⟩], none⟩) (v := (.pointer (some ⟨pb, 0, none⟩))) rfl (by kernel_rfl) (by kernel_rfl) (by kernel_rfl) (fun _ _ _ h => h) (Or.inl ⟨by rfl, fun _ _ => by rfl⟩) trivial ?_
          simp only [Act.put, List.setIfInBounds_toArray, List.set_cons_zero, List.set_cons_succ]
          refine wpAnyH_take (i := 10) (oi := ⟨some 82, .fieldAddr 71 (.tmp 81) 2, 0, "law.go:115", #[⟨9, .data⟩, ⟨0, .phase⟩, ⟨1, .phase⟩, ⟨2, .phase⟩, ⟨3, .phase⟩, ⟨4, .phase⟩, ⟨5, .phase⟩, ⟨6, .phase⟩, ⟨7, .phase⟩, ⟨8, .phase⟩], none⟩) (v := (.pointer (some ⟨pb, 4, none⟩))) rfl (by kernel_rfl) (by kernel_rfl) (by kernel_rfl) (fun _ _ _ h => h) (Or.inl ⟨by rfl, fun _ _ => by rfl⟩) trivial ?_
          simp only [Act.put, List.setIfInBounds_toArray, List.set_cons_zero, List.set_cons_succ]
          refine wpAnyH_ready (rs := [11]) (by kernel_rfl) (by simp) ?_
          refine AllReadyH.cons (o := ⟨none, .store 69 (.tmp 82) (.tmp 80), 0, "law.go:115", #[⟨10, .data⟩, ⟨8, .data⟩, ⟨8, .chain⟩, ⟨0, .phase⟩, ⟨1, .phase⟩, ⟨2, .phase⟩, ⟨3, .phase⟩, ⟨4, .phase⟩, ⟨5, .phase⟩, ⟨6, .phase⟩, ⟨7, .phase⟩, ⟨8, .phase⟩], none⟩) rfl (fun KK hK => ?_) (AllReadyH.nil)
          go_simp
          refine hK.out _ _ trivial (fun hHeld => ?_)
          clear hK KK hHeld
          try simp only [Act.put, List.setIfInBounds_toArray, List.set_cons_zero, List.set_cons_succ]
          refine wpAnyH_done (by kernel_rfl) ?_ _
          obtain ⟨wl, hwl⟩ : ∃ x, wk.setCell ⟨pb, 4, none⟩ (.slice ba' E' bc') = x := ⟨_, rfl⟩
          rw [hwl]
          have ul : Turns (fun i => i = pb) wk wl := by rw [← hwl]; exact Turns.cell wk pb 4 _
          have zl : wl.heap[pb]? = some (.cells (plC a b (.slice ba' E' bc') st false) 71 (0, 0)) := by rw [← hwl]; exact heap_setCell_same _ _ _ _ _ _ HZk.out
          have hB := HM10.out.booked HK3.out ul zl (by omega)
          have HB : Hid _ := hB
          clear hB ul zl HK3 HM10 hkp hmk HZk fk ck hwl
          go_wp2_with fail
          go_ret
          obtain ⟨L', es', he', P11, F11⟩ := HB.out
          exact ⟨rfl, L', _, _, es', by rw [hR]; exact P11, F11, Or.inr (by omega)⟩
        · go_simp
          refine hmk.mono ?_
          rintro e wm ⟨mm, rfl, rfl⟩
          go_wp2_with fail
          refine hK.out _ _ trivial (fun hHeld => ?_)
          clear hK KK hHeld
          try simp only [Act.put, List.setIfInBounds_toArray, List.set_cons_zero, List.set_cons_succ]
          refine wpAnyH_ready (rs := [4]) (by kernel_rfl) (by simp) ?_
          refine AllReadyH.cons (o := ⟨some 76, .load 69 (.tmp 75), 69, "law.go:115", #[⟨3, .data⟩], none⟩) rfl (fun KK hK => ?_) (AllReadyH.nil)
          go_simp
          refine hK.out _ _ trivial (fun hHeld => ?_)
          clear hK KK hHeld
          try simp only [Act.put, List.setIfInBounds_toArray, List.set_cons_zero, List.set_cons_succ]
          refine wpAnyH_ready (rs := [8]) (by kernel_rfl) (by simp) ?_
          refine AllReadyH.cons (o := ⟨some 80, .call ⟨.value (.func 46), #[.tmp 76, .tmp 77, .tmp 79], #[69, 22, 5]⟩, 69, "law.go:115", #[⟨4, .data⟩, ⟨5, .data⟩, ⟨7, .data⟩, ⟨7, .chain⟩], none⟩) rfl (fun KK hK => ?_) (AllReadyH.nil)
          go_simp
          refine (hkp mm).mono ?_
          rintro e wk ⟨bv', rfl, K3⟩
          have HK3 : Hid (Kept3 _ _ _ _ _ _ _) := K3
          obtain ⟨fs, _, hB, hT⟩ := K3
          obtain ⟨ba', bc', hbv'⟩ := tl_slice hB.row
          generalize (es ++ fs).length = E' at hbv'
          clear hB
          subst hbv'
          have zk := (hT.block pb (heap_lt HM10.out.pl.box) HM10.out.pk).trans HM10.out.pl.box
          have fk : wk.frozen? ⟨pb, 4, none⟩ = false := by simp [World.frozen?, zk]
          have ck : wk.cell? ⟨pb, 4, none⟩ = some (.slice ba es.length bc) := by simp [World.cell?, zk]
          have HZk : Hid (wk.heap[pb]? = _) := zk
          clear zk hT
          go_wp2_with fail
          refine hK.out _ _ trivial (fun hHeld => ?_)
          clear hK KK hHeld
          try simp only [Act.put, List.setIfInBounds_toArray, List.set_cons_zero, List.set_cons_succ]
          refine wpAnyH_take (i := 9) (oi := ⟨some 81, .nilCheck (.tmp 72), 0, "law.go:115", #[⟨0, .data⟩, ⟨0, .phase⟩, ⟨1, .phase⟩, ⟨2, .phase⟩, ⟨3, .phase⟩, ⟨4, .phase⟩, ⟨5, .phase⟩, ⟨6, .phase⟩, ⟨7, .phase⟩, ⟨8, .phase⟩], none⟩) (v := (.pointer (some ⟨pb, 0, none⟩))) rfl (by kernel_rfl) (by kernel_rfl) (by kernel_rfl) (fun _ _ _ h => h) (Or.inl ⟨by rfl, fun _ _ => by rfl⟩) trivial ?_
          simp only [Act.put, List.setIfInBounds_toArray, List.set_cons_zero, List.set_cons_succ]
          refine wpAnyH_take (i := 10) (oi := ⟨some 82, .fieldAddr 71 (.tmp 81) 2, 0, "law.go:115", #[⟨9, .data⟩, ⟨0, .phase⟩, ⟨1, .phase⟩, ⟨2, .phase⟩, ⟨3, .phase⟩, ⟨4, .phase⟩, ⟨5, .phase⟩, ⟨6, .phase⟩, ⟨7, .phase⟩, ⟨8, .phase⟩], none⟩) (v := (.pointer (some ⟨pb, 4, none⟩))) rfl (by kernel_rfl) (by kernel_rfl) (by kernel_rfl) (fun _ _ _ h => h) (Or.inl ⟨by rfl, fun _ _ => by rfl⟩) trivial ?_
          simp only [Act.put, List.setIfInBounds_toArray, List.set_cons_zero, List.set_cons_succ]
          refine wpAnyH_ready (rs := [11]) (by kernel_rfl) (by simp) ?_
          refine AllReadyH.cons (o := ⟨none, .store 69 (.tmp 82) (.tmp 80), 0, "law.go:115", #[⟨10, .data⟩, ⟨8, .data⟩, ⟨8, .chain⟩, ⟨0, .phase⟩, ⟨1, .phase⟩, ⟨2, .phase⟩, ⟨3, .phase⟩, ⟨4, .phase⟩, ⟨5, .phase⟩, ⟨6, .phase⟩, ⟨7, .phase⟩, ⟨8, .phase⟩], none⟩) rfl (fun KK hK => ?_) (AllReadyH.nil)
          go_simp
          refine hK.out _ _ trivial (fun hHeld => ?_)
          clear hK KK hHeld
          try simp only [Act.put, List.setIfInBounds_toArray, List.set_cons_zero, List.set_cons_succ]
          refine wpAnyH_done (by kernel_rfl) ?_ _
          obtain ⟨wl, hwl⟩ : ∃ x, wk.setCell ⟨pb, 4, none⟩ (.slice ba' E' bc') = x := ⟨_, rfl⟩
          rw [hwl]
          have ul : Turns (fun i => i = pb) wk wl := by rw [← hwl]; exact Turns.cell wk pb 4 _
          have zl : wl.heap[pb]? = some (.cells (plC a b (.slice ba' E' bc') st false) 71 (0, 0)) := by rw [← hwl]; exact heap_setCell_same _ _ _ _ _ _ HZk.out
          have hB := HM10.out.booked HK3.out ul zl (by omega)
          have HB : Hid _ := hB
          clear hB ul zl HK3 HM10 hkp hmk HZk fk ck hwl
          go_wp2_with fail
          go_ret
          obtain ⟨L', es', he', P11, F11⟩ := HB.out
          exact ⟨rfl, L', _, _, es', by rw [hR]; exact P11, F11, Or.inr (by omega)⟩
      · have hEi : ¬ (es.length : Int) < 900 := by omega
        go_wp2_with fail
        go_ret
        exact ⟨rfl, _, _, _, _, by rw [hR]; exact HM9.out.pl, HM9.out.fr, Or.inl (Nat.le_refl _)⟩
    · rw [show ((1 : Nat) : Int) = 1 from rfl]
      go_enter Try.func37, Try.ntmps37
      go_wp2_with fail
      refine hrm.mono ?_
      rintro e w3 ⟨g, c', rfl, ho3, b3⟩
      have M3 : Mid w0 w w3 lab (rl L1 W2 (k + 6)) k pb a b (.slice ba es.length bc) st _ S R es o w.heap.size (.slice (some ⟨g, 0, none⟩) (o.dn + 3) c') :=
        ⟨HP.out.below b3 (k + 6), HF.out.trans (Fr.below b3 (k + 6)), HW.out.below b3 (k + 6), ((Fr.below b3 (k + 6)).box HY.out.1 HY.out.2).1, ((Fr.below b3 (k + 6)).box HY.out.1 HY.out.2).2, ownsRow_mono ho3 (Nat.zero_le _), fun i q => by rw [rl_new (own_ge ho3 q)]; exact fun q => by have := q.2; omega, fun i q => Nat.le_trans HF.out.t.size (own_ge ho3 q)⟩
      generalize rl L1 W2 (k + 6) = L3 at M3
      have M4 := M3.below hk (below_drewN w3 1)
      generalize rl L3 w3 (k + 6) = L4 at M4
      have hl4 : Lies (w3.drewN 1) (some ⟨g, 0, none⟩) (o.dn + 3) c' (o.Z ++ [201, 202, 203]) := Lies.owned M4.row
      have hle3 := hl4.hle
      have hS := sendN (M4.pl.n 1 hc) hlast o.to (some ⟨g, 0, none⟩) o.dn c' o.Z (hl4.first HI.out.li.hlen) (Nat.le_trans HI.out.le (by decide))
      have HSs : Hid (ShT _ (sendS (S 1) o.to o.Z)) := HSh.out M4.pl.short
      have p1 := M3.pl.cell 1 _ rfl
      have o5 := M3.o5
      have o6' := M3.o6
      have hsl : (o.dn : Int) ≤ c' := by omega
      have HM4 : Hid (Mid w0 w (w3.drewN 1) lab L4 k pb a b (.slice ba es.length bc) st _ S R es o w.heap.size _) := M4
      clear M3 M4 hl4 hrm HP HF HW HY c6 f6 o6 q6
      go_wp2_with fail
      refine wp_region_held_drew (S := fun w' => w'.cell? ⟨pb, 1, none⟩ = some (.pointer (some ⟨a 1, 0, none⟩)) ∧ w'.cell? ⟨w.heap.size, 5, none⟩ = some (.int .i64 o.to) ∧ w'.cell? ⟨w.heap.size, 6, none⟩ = some (.slice o.da o.dn o.dc)) (by kernel_rfl) ⟨p1, o5, o6'⟩ (fun hHeld => ?_)
      refine wpAnyH_take (i := 0) (oi := ⟨some 27, .move (.tmp 0), 66, "law.go:111", #[], none⟩) (v := (.pointer (some ⟨pb, 0, none⟩))) rfl (by kernel_rfl) (by kernel_rfl) (by kernel_rfl) (fun _ _ _ h => h) (Or.inl ⟨by rfl, fun _ _ => by rfl⟩) hHeld ?_
      simp only [Act.put, List.setIfInBounds_toArray, List.set_cons_zero, List.set_cons_succ]
      refine wpAnyH_take (i := 1) (oi := ⟨some 28, .move (.tmp 1), 3, "law.go:111", #[], none⟩) (v := (.int .i64 1)) rfl (by kernel_rfl) (by kernel_rfl) (by kernel_rfl) (fun _ _ _ h => h) (Or.inl ⟨by rfl, fun _ _ => by rfl⟩) hHeld ?_
      simp only [Act.put, List.setIfInBounds_toArray, List.set_cons_zero, List.set_cons_succ]
      refine wpAnyH_take (i := 2) (oi := ⟨some 29, .nilCheck (.tmp 27), 0, "law.go:111", #[⟨0, .data⟩], none⟩) (v := (.pointer (some ⟨pb, 0, none⟩))) rfl (by kernel_rfl) (by kernel_rfl) (by kernel_rfl) (fun _ _ _ h => h) (Or.inl ⟨by rfl, fun _ _ => by rfl⟩) hHeld ?_
      simp only [Act.put, List.setIfInBounds_toArray, List.set_cons_zero, List.set_cons_succ]
      refine wpAnyH_take (i := 3) (oi := ⟨some 30, .fieldAddr 71 (.tmp 29) 0, 0, "law.go:111", #[⟨2, .data⟩], none⟩) (v := (.pointer (some ⟨pb, 0, none⟩))) rfl (by kernel_rfl) (by kernel_rfl) (by kernel_rfl) (fun _ _ _ h => h) (Or.inl ⟨by rfl, fun _ _ => by rfl⟩) hHeld ?_
      simp only [Act.put, List.setIfInBounds_toArray, List.set_cons_zero, List.set_cons_succ]
      refine wpAnyH_take (i := 4) (oi := ⟨some 31, .indexAddr 67 (.tmp 30) (.tmp 28), 0, "law.go:111", #[⟨3, .data⟩, ⟨1, .data⟩], none⟩) (v := (.pointer (some ⟨pb, 1, none⟩))) rfl (by kernel_rfl) (by kernel_rfl) (by kernel_rfl) (fun _ _ _ h => h) (Or.inl ⟨by rfl, fun w' h' => by unfold execOp; go_simp⟩) hHeld ?_
      simp only [Act.put, List.setIfInBounds_toArray, List.set_cons_zero, List.set_cons_succ]
      refine wpAnyH_take (i := 5) (oi := ⟨some 32, .load 24 (.tmp 31), 24, "law.go:111", #[⟨4, .data⟩], none⟩) (v := (.pointer (some ⟨a 1, 0, none⟩))) rfl (by kernel_rfl) (by kernel_rfl) (by kernel_rfl) (fun _ _ _ h => h) (Or.inl ⟨by rfl, fun w' h' => by have e1 := h'.1; have e2 := h'.2.1; have e3 := h'.2.2; unfold execOp; go_simp⟩) hHeld ?_
      simp only [Act.put, List.setIfInBounds_toArray, List.set_cons_zero, List.set_cons_succ]
      refine wpAnyH_take (i := 6) (oi := ⟨some 33, .fieldAddr 59 (.tmp 5) 5, 0, "law.go:111", #[], none⟩) (v := (.pointer (some ⟨w.heap.size, 5, none⟩))) rfl (by kernel_rfl) (by kernel_rfl) (by kernel_rfl) (fun _ _ _ h => h) (Or.inl ⟨by rfl, fun _ _ => by rfl⟩) hHeld ?_
      simp only [Act.put, List.setIfInBounds_toArray, List.set_cons_zero, List.set_cons_succ]
      refine wpAnyH_take (i := 7) (oi := ⟨some 34, .load 3 (.tmp 33), 3, "law.go:111", #[⟨6, .data⟩], none⟩) (v := (.int .i64 o.to)) rfl (by kernel_rfl) (by kernel_rfl) (by kernel_rfl) (fun _ _ _ h => h) (Or.inl ⟨by rfl, fun w' h' => by have e1 := h'.1; have e2 := h'.2.1; have e3 := h'.2.2; unfold execOp; go_simp⟩) hHeld ?_
      simp only [Act.put, List.setIfInBounds_toArray, List.set_cons_zero, List.set_cons_succ]
      refine wpAnyH_take (i := 8) (oi := ⟨some 35, .move (.tmp 7), 22, "law.go:111", #[], none⟩) (v := (.slice (some ⟨g, 0, none⟩) (o.dn + 3) c')) rfl (by kernel_rfl) (by kernel_rfl) (by kernel_rfl) (fun _ _ _ h => h) (Or.inl ⟨by rfl, fun _ _ => by rfl⟩) hHeld ?_
      simp only [Act.put, List.setIfInBounds_toArray, List.set_cons_zero, List.set_cons_succ]
      refine wpAnyH_take (i := 9) (oi := ⟨some 36, .fieldAddr 59 (.tmp 5) 6, 0, "law.go:111", #[], none⟩) (v := (.pointer (some ⟨w.heap.size, 6, none⟩))) rfl (by kernel_rfl) (by kernel_rfl) (by kernel_rfl) (fun _ _ _ h => h) (Or.inl ⟨by rfl, fun _ _ => by rfl⟩) hHeld ?_
      simp only [Act.put, List.setIfInBounds_toArray, List.set_cons_zero, List.set_cons_succ]
      refine wpAnyH_take (i := 10) (oi := ⟨some 37, .load 22 (.tmp 36), 22, "law.go:111", #[⟨9, .data⟩], none⟩) (v := (.slice o.da o.dn o.dc)) rfl (by kernel_rfl) (by kernel_rfl) (by kernel_rfl) (fun _ _ _ h => h) (Or.inl ⟨by rfl, fun w' h' => by have e1 := h'.1; have e2 := h'.2.1; have e3 := h'.2.2; unfold execOp; go_simp⟩) hHeld ?_
      simp only [Act.put, List.setIfInBounds_toArray, List.set_cons_zero, List.set_cons_succ]
      refine wpAnyH_take (i := 11) (oi := ⟨some 38, .call ⟨.builtin .len, #[.tmp 37], #[22]⟩, 3, "law.go:111", #[⟨10, .data⟩], none⟩) (v := (.int .i64 o.dn)) rfl (by kernel_rfl) (by kernel_rfl) (by kernel_rfl) (fun _ _ _ h => h) (Or.inl ⟨by rfl, fun w' h' => by unfold execOp; go_simp⟩) hHeld ?_
      simp only [Act.put, List.setIfInBounds_toArray, List.set_cons_zero, List.set_cons_succ]
      refine wpAnyH_take (i := 12) (oi := ⟨some 39, .slice 22 (.tmp 35) none (some (.tmp 38)) none, 22, "law.go:111", #[⟨8, .data⟩, ⟨11, .data⟩], none⟩) (v := (.slice (some ⟨g, 0, none⟩) o.dn c')) rfl (by kernel_rfl) (by kernel_rfl) (by kernel_rfl) (fun _ _ _ h => h) (Or.inl ⟨by rfl, fun w' h' => by unfold execOp; go_simp⟩) hHeld ?_
      simp only [Act.put, List.setIfInBounds_toArray, List.set_cons_zero, List.set_cons_succ]
      refine wpAnyH_take (i := 13) (oi := ⟨some 40, .build 28 #[(0, .tmp 34), (1, .tmp 39)], 28, "law.go:111", #[⟨7, .data⟩, ⟨12, .data⟩], none⟩) (v := (.agg #[.int .i64 o.to, (.slice (some ⟨g, 0, none⟩) o.dn c')])) rfl (by kernel_rfl) (by kernel_rfl) (by kernel_rfl) (fun _ _ _ h => h) (Or.inl ⟨by rfl, fun w' h' => by unfold execOp; go_simp⟩) hHeld ?_
      simp only [Act.put, List.setIfInBounds_toArray, List.set_cons_zero, List.set_cons_succ]
      refine wpAnyH_ready (rs := [14]) (by kernel_rfl) (by simp) ?_
      refine AllReadyH.cons (o := ⟨some 41, .call ⟨.value (.func 11), #[.tmp 32, .tmp 40], #[24, 28]⟩, 3, "law.go:111", #[⟨5, .data⟩, ⟨13, .data⟩], none⟩) rfl (fun KK hK => ?_) (AllReadyH.nil)
      go_simp
      refine hS.mono ?_
      rintro e w5 ⟨rfl, hN5, t5⟩
      obtain ⟨P5, F5⟩ := HM4.out.pl.stepN hc hN5 t5 (fun i hi _ => rl_old hi) HSs.out
      have M5 := HM4.out.step hk P5 F5
      have x0 := P5.cell 1 _ rfl
      have x2 := P5.cell 3 _ rfl
      have x5 := M5.o5
      have x6 := M5.o6
      have HM5 : Hid (Mid w0 w w5 lab _ k pb a b (.slice ba es.length bc) st _ _ R es o w.heap.size _) := M5
      clear hS M5 P5 F5 hN5 t5 HM4
      go_wp2_with fail
      refine hK.out _ _ ⟨x0, x5, x6⟩ (fun hHeld => ?_)
      clear hK KK
      try simp only [Act.put, List.setIfInBounds_toArray, List.set_cons_zero, List.set_cons_succ]
      refine wpAnyH_take (i := 15) (oi := ⟨some 8, .assign (.tmp 41), 3, "law.go:111", #[⟨14, .data⟩, ⟨14, .chain⟩, ⟨0, .phase⟩, ⟨1, .phase⟩, ⟨2, .phase⟩, ⟨3, .phase⟩, ⟨4, .phase⟩, ⟨5, .phase⟩, ⟨6, .phase⟩, ⟨7, .phase⟩, ⟨8, .phase⟩, ⟨9, .phase⟩, ⟨10, .phase⟩, ⟨11, .phase⟩, ⟨12, .phase⟩, ⟨13, .phase⟩, ⟨14, .phase⟩], none⟩) (v := (.int .i64 (sendA (S 1)))) rfl (by kernel_rfl) (by kernel_rfl) (by kernel_rfl) (fun _ _ _ h => h) (Or.inl ⟨by rfl, fun _ _ => by rfl⟩) hHeld ?_
      simp only [Act.put, List.setIfInBounds_toArray, List.set_cons_zero, List.set_cons_succ]
      refine wpAnyH_done (by kernel_rfl) ?_ _
      go_wp2_with fail
      have M6 := HM5.out.below hk (below_drewN w5 1)
      have i6 := hO _ M6.wk.b
      have hD := dsendN (M6.pl.d 1 hc) (by rw [hR]; exact hlast) o.to o.da o.dn o.dc o.Z i6.li (Nat.le_trans HI.out.le (by decide))
      rw [hR] at hD
      have HM6 : Hid (Mid w0 w (w5.drewN 1) lab _ k pb a b (.slice ba es.length bc) st _ _ R es o w.heap.size _) := M6
      clear M6 HM5 i6
      refine wp_region_held_drew (S := fun w' => w'.cell? ⟨pb, 3, none⟩ = some (.pointer (some ⟨b 1, 0, none⟩)) ∧ w'.cell? ⟨w.heap.size, 5, none⟩ = some (.int .i64 o.to) ∧ w'.cell? ⟨w.heap.size, 6, none⟩ = some (.slice o.da o.dn o.dc)) (by kernel_rfl) ⟨x2, x5, x6⟩ (fun hHeld => ?_)
      refine wpAnyH_take (i := 0) (oi := ⟨some 42, .move (.tmp 0), 66, "law.go:112", #[], none⟩) (v := (.pointer (some ⟨pb, 0, none⟩))) rfl (by kernel_rfl) (by kernel_rfl) (by kernel_rfl) (fun _ _ _ h => h) (Or.inl ⟨by rfl, fun _ _ => by rfl⟩) hHeld ?_
      simp only [Act.put, List.setIfInBounds_toArray, List.set_cons_zero, List.set_cons_succ]
      refine wpAnyH_take (i := 1) (oi := ⟨some 43, .move (.tmp 1), 3, "law.go:112", #[], none⟩) (v := (.int .i64 1)) rfl (by kernel_rfl) (by kernel_rfl) (by kernel_rfl) (fun _ _ _ h => h) (Or.inl ⟨by rfl, fun _ _ => by rfl⟩) hHeld ?_
      simp only [Act.put, List.setIfInBounds_toArray, List.set_cons_zero, List.set_cons_succ]
      refine wpAnyH_take (i := 2) (oi := ⟨some 44, .nilCheck (.tmp 42), 0, "law.go:112", #[⟨0, .data⟩], none⟩) (v := (.pointer (some ⟨pb, 0, none⟩))) rfl (by kernel_rfl) (by kernel_rfl) (by kernel_rfl) (fun _ _ _ h => h) (Or.inl ⟨by rfl, fun _ _ => by rfl⟩) hHeld ?_
      simp only [Act.put, List.setIfInBounds_toArray, List.set_cons_zero, List.set_cons_succ]
      refine wpAnyH_take (i := 3) (oi := ⟨some 45, .fieldAddr 71 (.tmp 44) 1, 0, "law.go:112", #[⟨2, .data⟩], none⟩) (v := (.pointer (some ⟨pb, 2, none⟩))) rfl (by kernel_rfl) (by kernel_rfl) (by kernel_rfl) (fun _ _ _ h => h) (Or.inl ⟨by rfl, fun _ _ => by rfl⟩) hHeld ?_
      simp only [Act.put, List.setIfInBounds_toArray, List.set_cons_zero, List.set_cons_succ]
      refine wpAnyH_take (i := 4) (oi := ⟨some 46, .indexAddr 68 (.tmp 45) (.tmp 43), 0, "law.go:112", #[⟨3, .data⟩, ⟨1, .data⟩], none⟩) (v := (.pointer (some ⟨pb, 3, none⟩))) rfl (by kernel_rfl) (by kernel_rfl) (by kernel_rfl) (fun _ _ _ h => h) (Or.inl ⟨by rfl, fun w' h' => by unfold execOp; go_simp⟩) hHeld ?_
      simp only [Act.put, List.setIfInBounds_toArray, List.set_cons_zero, List.set_cons_succ]
      refine wpAnyH_take (i := 5) (oi := ⟨some 47, .load 52 (.tmp 46), 52, "law.go:112", #[⟨4, .data⟩], none⟩) (v := (.pointer (some ⟨b 1, 0, none⟩))) rfl (by kernel_rfl) (by kernel_rfl) (by kernel_rfl) (fun _ _ _ h => h) (Or.inl ⟨by rfl, fun w' h' => by have e1 := h'.1; have e2 := h'.2.1; have e3 := h'.2.2; unfold execOp; go_simp⟩) hHeld ?_
      simp only [Act.put, List.setIfInBounds_toArray, List.set_cons_zero, List.set_cons_succ]
      refine wpAnyH_take (i := 6) (oi := ⟨some 48, .fieldAddr 59 (.tmp 5) 5, 0, "law.go:112", #[], none⟩) (v := (.pointer (some ⟨w.heap.size, 5, none⟩))) rfl (by kernel_rfl) (by kernel_rfl) (by kernel_rfl) (fun _ _ _ h => h) (Or.inl ⟨by rfl, fun _ _ => by rfl⟩) hHeld ?_
      simp only [Act.put, List.setIfInBounds_toArray, List.set_cons_zero, List.set_cons_succ]
      refine wpAnyH_take (i := 7) (oi := ⟨some 49, .load 3 (.tmp 48), 3, "law.go:112", #[⟨6, .data⟩], none⟩) (v := (.int .i64 o.to)) rfl (by kernel_rfl) (by kernel_rfl) (by kernel_rfl) (fun _ _ _ h => h) (Or.inl ⟨by rfl, fun w' h' => by have e1 := h'.1; have e2 := h'.2.1; have e3 := h'.2.2; unfold execOp; go_simp⟩) hHeld ?_
      simp only [Act.put, List.setIfInBounds_toArray, List.set_cons_zero, List.set_cons_succ]
      refine wpAnyH_take (i := 8) (oi := ⟨some 50, .fieldAddr 59 (.tmp 5) 6, 0, "law.go:112", #[], none⟩) (v := (.pointer (some ⟨w.heap.size, 6, none⟩))) rfl (by kernel_rfl) (by kernel_rfl) (by kernel_rfl) (fun _ _ _ h => h) (Or.inl ⟨by rfl, fun _ _ => by rfl⟩) hHeld ?_
      simp only [Act.put, List.setIfInBounds_toArray, List.set_cons_zero, List.set_cons_succ]
      refine wpAnyH_take (i := 9) (oi := ⟨some 51, .load 22 (.tmp 50), 22, "law.go:112", #[⟨8, .data⟩], none⟩) (v := (.slice o.da o.dn o.dc)) rfl (by kernel_rfl) (by kernel_rfl) (by kernel_rfl) (fun _ _ _ h => h) (Or.inl ⟨by rfl, fun w' h' => by have e1 := h'.1; have e2 := h'.2.1; have e3 := h'.2.2; unfold execOp; go_simp⟩) hHeld ?_
      simp only [Act.put, List.setIfInBounds_toArray, List.set_cons_zero, List.set_cons_succ]
      refine wpAnyH_take (i := 10) (oi := ⟨some 52, .build 28 #[(0, .tmp 49), (1, .tmp 51)], 28, "law.go:112", #[⟨7, .data⟩, ⟨9, .data⟩], none⟩) (v := (.agg #[.int .i64 o.to, (.slice o.da o.dn o.dc)])) rfl (by kernel_rfl) (by kernel_rfl) (by kernel_rfl) (fun _ _ _ h => h) (Or.inl ⟨by rfl, fun w' h' => by unfold execOp; go_simp⟩) hHeld ?_
      simp only [Act.put, List.setIfInBounds_toArray, List.set_cons_zero, List.set_cons_succ]
      refine wpAnyH_ready (rs := [11]) (by kernel_rfl) (by simp) ?_
      refine AllReadyH.cons (o := ⟨some 53, .call ⟨.value (.func 24), #[.tmp 47, .tmp 52], #[52, 28]⟩, 3, "law.go:112", #[⟨5, .data⟩, ⟨10, .data⟩], none⟩) rfl (fun KK hK => ?_) (AllReadyH.nil)
      go_simp
      refine hD.mono ?_
      rintro e w7 ⟨rfl, hN7, t7⟩
      obtain ⟨P7, F7⟩ := HM6.out.pl.stepD hc hN7 t7 (fun i hi _ => rl_old hi)
      have M7 := HM6.out.step hk P7 F7
      have y0 := P7.cell 3 _ rfl
      have y4 := P7.cell 4 _ rfl
      have y6 := P7.cell 6 _ rfl
      have y5 := M7.o5
      have y7 := M7.o6
      have HM7 : Hid (Mid w0 w w7 lab _ k pb a b (.slice ba es.length bc) st _ _ _ es o w.heap.size _) := M7
      clear hD M7 P7 F7 hN7 t7 HM6
      go_wp2_with fail
      refine hK.out _ _ ⟨y0, y5, y7⟩ (fun hHeld => ?_)
      clear hK KK
      try simp only [Act.put, List.setIfInBounds_toArray, List.set_cons_zero, List.set_cons_succ]
      refine wpAnyH_take (i := 12) (oi := ⟨some 9, .assign (.tmp 53), 3, "law.go:112", #[⟨11, .data⟩, ⟨11, .chain⟩, ⟨0, .phase⟩, ⟨1, .phase⟩, ⟨2, .phase⟩, ⟨3, .phase⟩, ⟨4, .phase⟩, ⟨5, .phase⟩, ⟨6, .phase⟩, ⟨7, .phase⟩, ⟨8, .phase⟩, ⟨9, .phase⟩, ⟨10, .phase⟩, ⟨11, .phase⟩], none⟩) (v := (.int .i64 (sendA (S 1)))) rfl (by kernel_rfl) (by kernel_rfl) (by kernel_rfl) (fun _ _ _ h => h) (Or.inl ⟨by rfl, fun _ _ => by rfl⟩) hHeld ?_
      simp only [Act.put, List.setIfInBounds_toArray, List.set_cons_zero, List.set_cons_succ]
      refine wpAnyH_done (by kernel_rfl) ?_ _
      have i7 := hO _ HM7.out.wk.b
      have hr8 := roomy_any o.da o.dn o.dc o.Z w7 i7.le i7.li
      clear i7
      go_wp2_with fail
      refine hr8.mono ?_
      rintro e w8 ⟨g2, c2, rfl, ho8, b8⟩
      have M8 := HM7.out.below hk b8
      have hs8 := same_any (some ⟨g, 0, none⟩) (some ⟨g2, 0, none⟩) (o.dn + 3) (o.dn + 3) c' c2 (o.Z ++ [201, 202, 203]) (o.Z ++ [201, 202, 203]) w8 (by have := HI.out.le; omega) (Lies.owned M8.row) (Lies.owned ho8)
      have HM8 : Hid (Mid w0 w w8 lab _ k pb a b (.slice ba es.length bc) st _ _ _ es o w.heap.size _) := M8
      clear M8 HM7 hr8 y0 y4 y5 y6 y7 ho8 b8
      go_wp2_with fail
      refine hs8.mono ?_
      rintro e w9 ⟨rfl, m9, hw9⟩
      have b9 : Below w8.heap.size w8 w9 := by rw [hw9]; exact below_drewN w8 m9
      have M9 := HM8.out.below hk b9
      have p4 := M9.pl.cell 4 _ rfl
      have p6 := M9.pl.cell 6 _ rfl
      have HM9 : Hid (Mid w0 w w9 lab _ k pb a b (.slice ba es.length bc) st _ _ _ es o w.heap.size _) := M9
      have hdd : decide (o.Z ++ [201, 202, 203] = o.Z ++ [201, 202, 203]) = true := decide_eq_true rfl
      have hbb : (sendA (S 1) == sendA (S 1)) = true := by simp
      clear hw9 M9 HM8 hs8 b9
      by_cases hE : es.length < 900
      · have hEi : (es.length : Int) < 900 := by omega
        have M10 := HM9.out.below hk (below_drewN w9 1)
        have hmk := mark_any M10.pl 0
        have hkp := fun m => keep_any M10.pl.bk _ (o.dn + 3) _ M10.row (fun i q r => M10.ru i q ⟨by omega, by omega⟩) (by omega) (by omega) m
        have HM10 : Hid (Mid w0 w (w9.drewN 1) lab _ k pb a b (.slice ba es.length bc) st _ _ _ es o w.heap.size _) := M10
        clear M10 HM9
        go_wp2_with fail
        refine wp_region_held_drew (S := fun _ => True) (by kernel_rfl) trivial (fun hHeld => ?_)
        clear hHeld
        refine wpAnyH_take (i := 0) (oi := ⟨some 72, .move (.tmp 0), 66, "law.go:115", #[], none⟩) (v := (.pointer (some ⟨pb, 0, none⟩))) rfl (by kernel_rfl) (by kernel_rfl) (by kernel_rfl) (fun _ _ _ h => h) (Or.inl ⟨by rfl, fun _ _ => by rfl⟩) trivial ?_
        simp only [Act.put, List.setIfInBounds_toArray, List.set_cons_zero, List.set_cons_succ]
        refine wpAnyH_take (i := 1) (oi := ⟨some 73, .move (.tmp 0), 66, "law.go:115", #[], none⟩) (v := (.pointer (some ⟨pb, 0, none⟩))) rfl (by kernel_rfl) (by kernel_rfl) (by kernel_rfl) (fun _ _ _ h => h) (Or.inl ⟨by rfl, fun _ _ => by rfl⟩) trivial ?_
        simp only [Act.put, List.setIfInBounds_toArray, List.set_cons_zero, List.set_cons_succ]
        refine wpAnyH_take (i := 2) (oi := ⟨some 74, .nilCheck (.tmp 73), 0, "law.go:115", #[⟨1, .data⟩], none⟩) (v := (.pointer (some ⟨pb, 0, none⟩))) rfl (by kernel_rfl) (by kernel_rfl) (by kernel_rfl) (fun _ _ _ h => h) (Or.inl ⟨by rfl, fun _ _ => by rfl⟩) trivial ?_
        simp only [Act.put, List.setIfInBounds_toArray, List.set_cons_zero, List.set_cons_succ]
        refine wpAnyH_take (i := 3) (oi := ⟨some 75, .fieldAddr 71 (.tmp 74) 2, 0, "law.go:115", #[⟨2, .data⟩], none⟩) (v := (.pointer (some ⟨pb, 4, none⟩))) rfl (by kernel_rfl) (by kernel_rfl) (by kernel_rfl) (fun _ _ _ h => h) (Or.inl ⟨by rfl, fun _ _ => by rfl⟩) trivial ?_
        simp only [Act.put, List.setIfInBounds_toArray, List.set_cons_zero, List.set_cons_succ]
        refine wpAnyH_take (i := 5) (oi := ⟨some 77, .move (.tmp 7), 22, "law.go:115", #[], none⟩) (v := (.slice (some ⟨g, 0, none⟩) (o.dn + 3) c')) rfl (by kernel_rfl) (by kernel_rfl) (by kernel_rfl) (fun _ _ _ h => h) (Or.inl ⟨by rfl, fun _ _ => by rfl⟩) trivial ?_
        simp only [Act.put, List.setIfInBounds_toArray, List.set_cons_zero, List.set_cons_succ]
        refine wpAnyH_take (i := 6) (oi := ⟨some 78, .move (.tmp 0), 66, "law.go:115", #[], none⟩) (v := (.pointer (some ⟨pb, 0, none⟩))) rfl (by kernel_rfl) (by kernel_rfl) (by kernel_rfl) (fun _ _ _ h => h) (Or.inl ⟨by rfl, fun _ _ => by rfl⟩) trivial ?_
        simp only [Act.put, List.setIfInBounds_toArray, List.set_cons_zero, List.set_cons_succ]
        refine wpAnyH_ready (rs := [4, 7]) (by kernel_rfl) (by simp) ?_
        refine AllReadyH.cons (o := ⟨some 76, .load 69 (.tmp 75), 69, "law.go:115", #[⟨3, .data⟩], none⟩) rfl (fun KK hK => ?_) (AllReadyH.cons (o := ⟨some 79, .call ⟨.value (.func 47), #[.tmp 78, .const (.int .i64 0)], #[66, 3]⟩, 5, "law.go:115", #[⟨6, .data⟩], none⟩) rfl (fun KK hK => ?_) (AllReadyH.nil))
        · go_simp
          refine hK.out _ _ trivial (fun hHeld => ?_)
          clear hK KK hHeld
          try simp only [Act.put, List.setIfInBounds_toArray, List.set_cons_zero, List.set_cons_succ]
          refine wpAnyH_ready (rs := [7]) (by kernel_rfl) (by simp) ?_
          refine AllReadyH.cons (o := ⟨some 79, .call ⟨.value (.func 47), #[.tmp 78, .const (.int .i64 0)], #[66, 3]⟩, 5, "law.go:115", #[⟨6, .data⟩], none⟩) rfl (fun KK hK => ?_) (AllReadyH.nil)
          go_simp
          refine hmk.mono ?_
          rintro e wm ⟨mm, rfl, rfl⟩
          go_wp2_with fail
          refine hK.out _ _ trivial (fun hHeld => ?_)
          clear hK KK hHeld
          try simp only [Act.put, List.setIfInBounds_toArray, List.set_cons_zero, List.set_cons_succ]
          refine wpAnyH_ready (rs := [8]) (by kernel_rfl) (by simp) ?_
          refine AllReadyH.cons (o := ⟨some 80, .call ⟨.value (.func 46), #[.tmp 76, .tmp 77, .tmp 79], #[69, 22, 5]⟩, 69, "law.go:115", #[⟨4, .data⟩, ⟨5, .data⟩, ⟨7, .data⟩, ⟨7, .chain⟩], none⟩) rfl (fun KK hK => ?_) (AllReadyH.nil)
          go_simp
          refine (hkp mm).mono ?_
          rintro e wk ⟨bv', rfl, K3⟩
          have HK3 : Hid (Kept3 _ _ _ _ _ _ _) := K3
          obtain ⟨fs, _, hB, hT⟩ := K3
          obtain ⟨ba', bc', hbv'⟩ := tl_slice hB.row
          generalize (es ++ fs).length = E' at hbv'
          clear hB
          subst hbv'
          have zk := (hT.block pb (heap_lt HM10.out.pl.box) HM10.out.pk).trans HM10.out.pl.box
          have fk : wk.frozen? ⟨pb, 4, none⟩ = false := by simp [World.frozen?, zk]
          have ck : wk.cell? ⟨pb, 4, none⟩ = some (.slice ba es.length bc) := by simp [World.cell?, zk]
          have HZk : Hid (wk.heap[pb]? = _) := zk
          clear zk hT
          go_wp2_with fail
          refine hK.out _ _ trivial (fun hHeld => ?_)
          clear hK KK hHeld
          try simp only [Act.put, List.setIfInBounds_toArray, List.set_cons_zero, List.set_cons_succ]
          refine wpAnyH_take (i := 9) (oi := ⟨some 81, .nilCheck (.tmp 72), 0, "law.go:115", #[⟨0, .data⟩, ⟨0, .phase⟩, ⟨1, .phase⟩, ⟨2, .phase⟩, ⟨3, .phase⟩, ⟨4, .phase⟩, ⟨5, .phase⟩, ⟨6, .phase⟩, ⟨7, .phase⟩, ⟨8, .phase⟩], none⟩) (v := (.pointer (some ⟨pb, 0, none⟩))) rfl (by kernel_rfl) (by kernel_rfl) (by kernel_rfl) (fun _ _ _ h => h) (Or.inl ⟨by rfl, fun _ _ => by rfl⟩) trivial ?_
          simp only [Act.put, List.setIfInBounds_toArray, List.set_cons_zero, List.set_cons_succ]
          refine wpAnyH_take (i := 10) (oi := ⟨some 82, .fieldAddr 71 (.tmp 81) 2, 0, "law.go:115", #[⟨9, .data⟩, ⟨0, .phase⟩, ⟨1, .phase⟩, ⟨2, .phase⟩, ⟨3, .phase⟩, ⟨4, .phase⟩, ⟨5, .phase⟩, ⟨6, .phase⟩, ⟨7, .phase⟩, ⟨8, .phase⟩], none⟩) (v := (.pointer (some ⟨pb, 4, none⟩))) rfl (by kernel_rfl) (by kernel_rfl) (by kernel_rfl) (fun _ _ _ h => h) (Or.inl ⟨by rfl, fun _ _ => by rfl⟩) trivial ?_
          simp only [Act.put, List.setIfInBounds_toArray, List.set_cons_zero, List.set_cons_succ]
          refine wpAnyH_ready (rs := [11]) (by kernel_rfl) (by simp) ?_
          refine AllReadyH.cons (o := ⟨none, .store 69 (.tmp 82) (.tmp 80), 0, "law.go:115", #[⟨10, .data⟩, ⟨8, .data⟩, ⟨8, .chain⟩, ⟨0, .phase⟩, ⟨1, .phase⟩, ⟨2, .phase⟩, ⟨3, .phase⟩, ⟨4, .phase⟩, ⟨5, .phase⟩, ⟨6, .phase⟩, ⟨7, .phase⟩, ⟨8, .phase⟩], none⟩) rfl (fun KK hK => ?_) (AllReadyH.nil)
          go_simp
          refine hK.out _ _ trivial (fun hHeld => ?_)
          clear hK KK hHeld
          try simp only [Act.put, List.setIfInBounds_toArray, List.set_cons_zero, List.set_cons_succ]
          refine wpAnyH_done (by kernel_rfl) ?_ _
          obtain ⟨wl, hwl⟩ : ∃ x, wk.setCell ⟨pb, 4, none⟩ (.slice ba' E' bc') = x := ⟨_, rfl⟩
          rw [hwl]
          have ul : Turns (fun i => i = pb) wk wl := by rw [← hwl]; exact Turns.cell wk pb 4 _
          have zl : wl.heap[pb]? = some (.cells (plC a b (.slice ba' E' bc') st false) 71 (0, 0)) := by rw [← hwl]; exact heap_setCell_same _ _ _ _ _ _ HZk.out
          have hB := HM10.out.booked HK3.out ul zl (by omega)
          have HB : Hid _ := hB
          clear hB ul zl HK3 HM10 hkp hmk HZk fk ck hwl
          go_wp2_with fail
          go_ret
          obtain ⟨L', es', he', P11, F11⟩ := HB.out
          exact ⟨rfl, L', _, _, es', by rw [hR]; exact P11, F11, Or.inr (by omega)⟩
        · go_simp
          refine hmk.mono ?_
          rintro e wm ⟨mm, rfl, rfl⟩
          go_wp2_with fail
          refine hK.out _ _ trivial (fun hHeld => ?_)
          clear hK KK hHeld
          try simp only [Act.put, List.setIfInBounds_toArray, List.set_cons_zero, List.set_cons_succ]
          refine wpAnyH_ready (rs := [4]) (by kernel_rfl) (by simp) ?_
          refine AllReadyH.cons (o := ⟨some 76, .load 69 (.tmp 75), 69, "law.go:115", #[⟨3, .data⟩], none⟩) rfl (fun KK hK => ?_) (AllReadyH.nil)
          go_simp
          refine hK.out _ _ trivial (fun hHeld => ?_)
          clear hK KK hHeld
          try simp only [Act.put, List.setIfInBounds_toArray, List.set_cons_zero, List.set_cons_succ]
          refine wpAnyH_ready (rs := [8]) (by kernel_rfl) (by simp) ?_
          refine AllReadyH.cons (o := ⟨some 80, .call ⟨.value (.func 46), #[.tmp 76, .tmp 77, .tmp 79], #[69, 22, 5]⟩, 69, "law.go:115", #[⟨4, .data⟩, ⟨5, .data⟩, ⟨7, .data⟩, ⟨7, .chain⟩], none⟩) rfl (fun KK hK => ?_) (AllReadyH.nil)
          go_simp
          refine (hkp mm).mono ?_
          rintro e wk ⟨bv', rfl, K3⟩
          have HK3 : Hid (Kept3 _ _ _ _ _ _ _) := K3
          obtain ⟨fs, _, hB, hT⟩ := K3
          obtain ⟨ba', bc', hbv'⟩ := tl_slice hB.row
          generalize (es ++ fs).length = E' at hbv'
          clear hB
          subst hbv'
          have zk := (hT.block pb (heap_lt HM10.out.pl.box) HM10.out.pk).trans HM10.out.pl.box
          have fk : wk.frozen? ⟨pb, 4, none⟩ = false := by simp [World.frozen?, zk]
          have ck : wk.cell? ⟨pb, 4, none⟩ = some (.slice ba es.length bc) := by simp [World.cell?, zk]
          have HZk : Hid (wk.heap[pb]? = _) := zk
          clear zk hT
          go_wp2_with fail
          refine hK.out _ _ trivial (fun hHeld => ?_)
          clear hK KK hHeld
          try simp only [Act.put, List.setIfInBounds_toArray, List.set_cons_zero, List.set_cons_succ]
          refine wpAnyH_take (i := 9) (oi := ⟨some 81, .nilCheck (.tmp 72), 0, "law.go:115", #[⟨0, .data⟩, ⟨0, .phase⟩, ⟨1, .phase⟩, ⟨2, .phase⟩, ⟨3, .phase⟩, ⟨4, .phase⟩, ⟨5, .phase⟩, ⟨6, .phase⟩, ⟨7, .phase⟩, ⟨8, .phase⟩], none⟩) (v := (.pointer (some ⟨pb, 0, none⟩))) rfl (by kernel_rfl) (by kernel_rfl) (by kernel_rfl) (fun _ _ _ h => h) (Or.inl ⟨by rfl, fun _ _ => by rfl⟩) trivial ?_
          simp only [Act.put, List.setIfInBounds_toArray, List.set_cons_zero, List.set_cons_succ]
          refine wpAnyH_take (i := 10) (oi := ⟨some 82, .fieldAddr 71 (.tmp 81) 2, 0, "law.go:115", #[⟨9, .data⟩, ⟨0, .phase⟩, ⟨1, .phase⟩, ⟨2, .phase⟩, ⟨3, .phase⟩, ⟨4, .phase⟩, ⟨5, .phase⟩, ⟨6, .phase⟩, ⟨7, .phase⟩, ⟨8, .phase⟩], none⟩) (v := (.pointer (some ⟨pb, 4, none⟩))) rfl (by kernel_rfl) (by kernel_rfl) (by kernel_rfl) (fun _ _ _ h => h) (Or.inl ⟨by rfl, fun _ _ => by rfl⟩) trivial ?_
          simp only [Act.put, List.setIfInBounds_toArray, List.set_cons_zero, List.set_cons_succ]
          refine wpAnyH_ready (rs := [11]) (by kernel_rfl) (by simp) ?_
          refine AllReadyH.cons (o := ⟨none, .store 69 (.tmp 82) (.tmp 80), 0, "law.go:115", #[⟨10, .data⟩, ⟨8, .data⟩, ⟨8, .chain⟩, ⟨0, .phase⟩, ⟨1, .phase⟩, ⟨2, .phase⟩, ⟨3, .phase⟩, ⟨4, .phase⟩, ⟨5, .phase⟩, ⟨6, .phase⟩, ⟨7, .phase⟩, ⟨8, .phase⟩], none⟩) rfl (fun KK hK => ?_) (AllReadyH.nil)
          go_simp
          refine hK.out _ _ trivial (fun hHeld => ?_)
          clear hK KK hHeld
          try simp only [Act.put, List.setIfInBounds_toArray, List.set_cons_zero, List.set_cons_succ]
          refine wpAnyH_done (by kernel_rfl) ?_ _
          obtain ⟨wl, hwl⟩ : ∃ x, wk.setCell ⟨pb, 4, none⟩ (.slice ba' E' bc') = x := ⟨_, rfl⟩
          rw [hwl]
          have ul : Turns (fun i => i = pb) wk wl := by rw [← hwl]; exact Turns.cell wk pb 4 _
          have zl : wl.heap[pb]? = some (.cells (plC a b (.slice ba' E' bc') st false) 71 (0, 0)) := by rw [← hwl]; exact heap_setCell_same _ _ _ _ _ _ HZk.out
          have hB := HM10.out.booked HK3.out ul zl (by omega)
          have HB : Hid _ := hB
          clear hB ul zl HK3 HM10 hkp hmk HZk fk ck hwl
          go_wp2_with fail
          go_ret
          obtain ⟨L', es', he', P11, F11⟩ := HB.out
          exact ⟨rfl, L', _, _, es', by rw [hR]; exact P11, F11, Or.inr (by omega)⟩
      · have hEi : ¬ (es.length : Int) < 900 := by omega
        go_wp2_with fail
        go_ret
        exact ⟨rfl, _, _, _, _, by rw [hR]; exact HM9.out.pl, HM9.out.fr, Or.inl (Nat.le_refl _)⟩
  · have hqi : 4096 < (o.dn : Int) := by omega
    obtain rfl | rfl : c = 0 ∨ c = 1 := by omega
    · rw [show ((0 : Nat) : Int) = 0 from rfl]
      go_enter Try.func37, Try.ntmps37
      go_wp2_with fail
      refine hrm.mono ?_
      rintro e w3 ⟨g, c', rfl, ho3, b3⟩
      have M3 : Mid w0 w w3 lab (rl L1 W2 (k + 6)) k pb a b (.slice ba es.length bc) st _ S R es o w.heap.size (.slice (some ⟨g, 0, none⟩) (o.dn + 3) c') :=
        ⟨HP.out.below b3 (k + 6), HF.out.trans (Fr.below b3 (k + 6)), HW.out.below b3 (k + 6), ((Fr.below b3 (k + 6)).box HY.out.1 HY.out.2).1, ((Fr.below b3 (k + 6)).box HY.out.1 HY.out.2).2, ownsRow_mono ho3 (Nat.zero_le _), fun i q => by rw [rl_new (own_ge ho3 q)]; exact fun q => by have := q.2; omega, fun i q => Nat.le_trans HF.out.t.size (own_ge ho3 q)⟩
      generalize rl L1 W2 (k + 6) = L3 at M3
      have M4 := M3.below hk (below_drewN w3 1)
      generalize rl L3 w3 (k + 6) = L4 at M4
      have hl4 : Lies (w3.drewN 1) (some ⟨g, 0, none⟩) (o.dn + 3) c' (o.Z ++ [201, 202, 203]) := Lies.owned M4.row
      have hle3 := hl4.hle
      have hS := sendN (M4.pl.n 0 hc) hlast o.to (some ⟨g, 0, none⟩) o.dn c' o.Z (hl4.first HI.out.li.hlen) (Nat.le_trans HI.out.le (by decide))
      have HSs : Hid (ShT _ (sendS (S 0) o.to o.Z)) := HSh.out M4.pl.short
      have p0 := M3.pl.cell 0 _ rfl
      have o5 := M3.o5
      have o6' := M3.o6
      have hsl : (o.dn : Int) ≤ c' := by omega
      have HM4 : Hid (Mid w0 w (w3.drewN 1) lab L4 k pb a b (.slice ba es.length bc) st _ S R es o w.heap.size _) := M4
      clear M3 M4 hl4 hrm HP HF HW HY c6 f6 o6 q6
      go_wp2_with fail
      refine wp_region_held_drew (S := fun w' => w'.cell? ⟨pb, 0, none⟩ = some (.pointer (some ⟨a 0, 0, none⟩)) ∧ w'.cell? ⟨w.heap.size, 5, none⟩ = some (.int .i64 o.to) ∧ w'.cell? ⟨w.heap.size, 6, none⟩ = some (.slice o.da o.dn o.dc)) (by kernel_rfl) ⟨p0, o5, o6'⟩ (fun hHeld => ?_)
      refine wpAnyH_take (i := 0) (oi := ⟨some 27, .move (.tmp 0), 66, "law.go:111", #[], none⟩) (v := (.pointer (some ⟨pb, 0, none⟩))) rfl (by kernel_rfl) (by kernel_rfl) (by kernel_rfl) (fun _ _ _ h => h) (Or.inl ⟨by rfl, fun _ _ => by rfl⟩) hHeld ?_
      simp only [Act.put, List.setIfInBounds_toArray, List.set_cons_zero, List.set_cons_succ]
      refine wpAnyH_take (i := 1) (oi := ⟨some 28, .move (.tmp 1), 3, "law.go:111", #[], none⟩) (v := (.int .i64 0)) rfl (by kernel_rfl) (by kernel_rfl) (by kernel_rfl) (fun _ _ _ h => h) (Or.inl ⟨by rfl, fun _ _ => by rfl⟩) hHeld ?_
      simp only [Act.put, List.setIfInBounds_toArray, List.set_cons_zero, List.set_cons_succ]
      refine wpAnyH_take (i := 2) (oi := ⟨some 29, .nilCheck (.tmp 27), 0, "law.go:111", #[⟨0, .data⟩], none⟩) (v := (.pointer (some ⟨pb, 0, none⟩))) rfl (by kernel_rfl) (by kernel_rfl) (by kernel_rfl) (fun _ _ _ h => h) (Or.inl ⟨by rfl, fun _ _ => by rfl⟩) hHeld ?_
      simp only [Act.put, List.setIfInBounds_toArray, List.set_cons_zero, List.set_cons_succ]
      refine wpAnyH_take (i := 3) (oi := ⟨some 30, .fieldAddr 71 (.tmp 29) 0, 0, "law.go:111", #[⟨2, .data⟩], none⟩) (v := (.pointer (some ⟨pb, 0, none⟩))) rfl (by kernel_rfl) (by kernel_rfl) (by kernel_rfl) (fun _ _ _ h => h) (Or.inl ⟨by rfl, fun _ _ => by rfl⟩) hHeld ?_
      simp only [Act.put, List.setIfInBounds_toArray, List.set_cons_zero, List.set_cons_succ]
      refine wpAnyH_take (i := 4) (oi := ⟨some 31, .indexAddr 67 (.tmp 30) (.tmp 28), 0, "law.go:111", #[⟨3, .data⟩, ⟨1, .data⟩], none⟩) (v := (.pointer (some ⟨pb, 0, none⟩))) rfl (by kernel_rfl) (by kernel_rfl) (by kernel_rfl) (fun _ _ _ h => h) (Or.inl ⟨by rfl, fun w' h' => by unfold execOp; go_simp⟩) hHeld ?_
      simp only [Act.put, List.setIfInBounds_toArray, List.set_cons_zero, List.set_cons_succ]
      refine wpAnyH_take (i := 5) (oi := ⟨some 32, .load 24 (.tmp 31), 24, "law.go:111", #[⟨4, .data⟩], none⟩) (v := (.pointer (some ⟨a 0, 0, none⟩))) rfl (by kernel_rfl) (by kernel_rfl) (by kernel_rfl) (fun _ _ _ h => h) (Or.inl ⟨by rfl, fun w' h' => by have e1 := h'.1; have e2 := h'.2.1; have e3 := h'.2.2; unfold execOp; go_simp⟩) hHeld ?_
      simp only [Act.put, List.setIfInBounds_toArray, List.set_cons_zero, List.set_cons_succ]
      refine wpAnyH_take (i := 6) (oi := ⟨some 33, .fieldAddr 59 (.tmp 5) 5, 0, "law.go:111", #[], none⟩) (v := (.pointer (some ⟨w.heap.size, 5, none⟩))) rfl (by kernel_rfl) (by kernel_rfl) (by kernel_rfl) (fun _ _ _ h => h) (Or.inl ⟨by rfl, fun _ _ => by rfl⟩) hHeld ?_
      simp only [Act.put, List.setIfInBounds_toArray, List.set_cons_zero, List.set_cons_succ]
      refine wpAnyH_take (i := 7) (oi := ⟨some 34, .load 3 (.tmp 33), 3, "law.go:111", #[⟨6, .data⟩], none⟩) (v := (.int .i64 o.to)) rfl (by kernel_rfl) (by kernel_rfl) (by kernel_rfl) (fun _ _ _ h => h) (Or.inl ⟨by rfl, fun w' h' => by have e1 := h'.1; have e2 := h'.2.1; have e3 := h'.2.2; unfold execOp; go_simp⟩) hHeld ?_
      simp only [Act.put, List.setIfInBounds_toArray, List.set_cons_zero, List.set_cons_succ]
      refine wpAnyH_take (i := 8) (oi := ⟨some 35, .move (.tmp 7), 22, "law.go:111", #[], none⟩) (v := (.slice (some ⟨g, 0, none⟩) (o.dn + 3) c')) rfl (by kernel_rfl) (by kernel_rfl) (by kernel_rfl) (fun _ _ _ h => h) (Or.inl ⟨by rfl, fun _ _ => by rfl⟩) hHeld ?_
      simp only [Act.put, List.setIfInBounds_toArray, List.set_cons_zero, List.set_cons_succ]
      refine wpAnyH_take (i := 9) (oi := ⟨some 36, .fieldAddr 59 (.tmp 5) 6, 0, "law.go:111", #[], none⟩) (v := (.pointer (some ⟨w.heap.size, 6, none⟩))) rfl (by kernel_rfl) (by kernel_rfl) (by kernel_rfl) (fun _ _ _ h => h) (Or.inl ⟨by rfl, fun _ _ => by rfl⟩) hHeld ?_
      simp only [Act.put, List.setIfInBounds_toArray, List.set_cons_zero, List.set_cons_succ]
      refine wpAnyH_take (i := 10) (oi := ⟨some 37, .load 22 (.tmp 36), 22, "law.go:111", #[⟨9, .data⟩], none⟩) (v := (.slice o.da o.dn o.dc)) rfl (by kernel_rfl) (by kernel_rfl) (by kernel_rfl) (fun _ _ _ h => h) (Or.inl ⟨by rfl, fun w' h' => by have e1 := h'.1; have e2 := h'.2.1; have e3 := h'.2.2; unfold execOp; go_simp⟩) hHeld ?_
      simp only [Act.put, List.setIfInBounds_toArray, List.set_cons_zero, List.set_cons_succ]
      refine wpAnyH_take (i := 11) (oi := ⟨some 38, .call ⟨.builtin .len, #[.tmp 37], #[22]⟩, 3, "law.go:111", #[⟨10, .data⟩], none⟩) (v := (.int .i64 o.dn)) rfl (by kernel_rfl) (by kernel_rfl) (by kernel_rfl) (fun _ _ _ h => h) (Or.inl ⟨by rfl, fun w' h' => by unfold execOp; go_simp⟩) hHeld ?_
      simp only [Act.put, List.setIfInBounds_toArray, List.set_cons_zero, List.set_cons_succ]
      refine wpAnyH_take (i := 12) (oi := ⟨some 39, .slice 22 (.tmp 35) none (some (.tmp 38)) none, 22, "law.go:111", #[⟨8, .data⟩, ⟨11, .data⟩], none⟩) (v := (.slice (some ⟨g, 0, none⟩) o.dn c')) rfl (by kernel_rfl) (by kernel_rfl) (by kernel_rfl) (fun _ _ _ h => h) (Or.inl ⟨by rfl, fun w' h' => by unfold execOp; go_simp⟩) hHeld ?_
      simp only [Act.put, List.setIfInBounds_toArray, List.set_cons_zero, List.set_cons_succ]
      refine wpAnyH_take (i := 13) (oi := ⟨some 40, .build 28 #[(0, .tmp 34), (1, .tmp 39)], 28, "law.go:111", #[⟨7, .data⟩, ⟨12, .data⟩], none⟩) (v := (.agg #[.int .i64 o.to, (.slice (some ⟨g, 0, none⟩) o.dn c')])) rfl (by kernel_rfl) (by kernel_rfl) (by kernel_rfl) (fun _ _ _ h => h) (Or.inl ⟨by rfl, fun w' h' => by unfold execOp; go_simp⟩) hHeld ?_
      simp only [Act.put, List.setIfInBounds_toArray, List.set_cons_zero, List.set_cons_succ]
      refine wpAnyH_ready (rs := [14]) (by kernel_rfl) (by simp) ?_
      refine AllReadyH.cons (o := ⟨some 41, .call ⟨.value (.func 11), #[.tmp 32, .tmp 40], #[24, 28]⟩, 3, "law.go:111", #[⟨5, .data⟩, ⟨13, .data⟩], none⟩) rfl (fun KK hK => ?_) (AllReadyH.nil)
      go_simp
      refine hS.mono ?_
      rintro e w5 ⟨rfl, hN5, t5⟩
      obtain ⟨P5, F5⟩ := HM4.out.pl.stepN hc hN5 t5 (fun i hi _ => rl_old hi) HSs.out
      have M5 := HM4.out.step hk P5 F5
      have x0 := P5.cell 0 _ rfl
      have x2 := P5.cell 2 _ rfl
      have x5 := M5.o5
      have x6 := M5.o6
      have HM5 : Hid (Mid w0 w w5 lab _ k pb a b (.slice ba es.length bc) st _ _ R es o w.heap.size _) := M5
      clear hS M5 P5 F5 hN5 t5 HM4
      go_wp2_with fail
      refine hK.out _ _ ⟨x0, x5, x6⟩ (fun hHeld => ?_)
      clear hK KK
      try simp only [Act.put, List.setIfInBounds_toArray, List.set_cons_zero, List.set_cons_succ]
      refine wpAnyH_take (i := 15) (oi := ⟨some 8, .assign (.tmp 41), 3, "law.go:111", #[⟨14, .data⟩, ⟨14, .chain⟩, ⟨0, .phase⟩, ⟨1, .phase⟩, ⟨2, .phase⟩, ⟨3, .phase⟩, ⟨4, .phase⟩, ⟨5, .phase⟩, ⟨6, .phase⟩, ⟨7, .phase⟩, ⟨8, .phase⟩, ⟨9, .phase⟩, ⟨10, .phase⟩, ⟨11, .phase⟩, ⟨12, .phase⟩, ⟨13, .phase⟩, ⟨14, .phase⟩], none⟩) (v := (.int .i64 (sendA (S 0)))) rfl (by kernel_rfl) (by kernel_rfl) (by kernel_rfl) (fun _ _ _ h => h) (Or.inl ⟨by rfl, fun _ _ => by rfl⟩) hHeld ?_
      simp only [Act.put, List.setIfInBounds_toArray, List.set_cons_zero, List.set_cons_succ]
      refine wpAnyH_done (by kernel_rfl) ?_ _
      go_wp2_with fail
      have M6 := HM5.out.below hk (below_drewN w5 1)
      have i6 := hO _ M6.wk.b
      have hD := dsendN (M6.pl.d 0 hc) (by rw [hR]; exact hlast) o.to o.da o.dn o.dc o.Z i6.li (Nat.le_trans HI.out.le (by decide))
      rw [hR] at hD
      have HM6 : Hid (Mid w0 w (w5.drewN 1) lab _ k pb a b (.slice ba es.length bc) st _ _ R es o w.heap.size _) := M6
      clear M6 HM5 i6
      refine wp_region_held_drew (S := fun w' => w'.cell? ⟨pb, 2, none⟩ = some (.pointer (some ⟨b 0, 0, none⟩)) ∧ w'.cell? ⟨w.heap.size, 5, none⟩ = some (.int .i64 o.to) ∧ w'.cell? ⟨w.heap.size, 6, none⟩ = some (.slice o.da o.dn o.dc)) (by kernel_rfl) ⟨x2, x5, x6⟩ (fun hHeld => ?_)
      refine wpAnyH_take (i := 0) (oi := ⟨some 42, .move (.tmp 0), 66, "law.go:112", #[], none⟩) (v := (.pointer (some ⟨pb, 0, none⟩))) rfl (by kernel_rfl) (by kernel_rfl) (by kernel_rfl) (fun _ _ _ h => h) (Or.inl ⟨by rfl, fun _ _ => by rfl⟩) hHeld ?_
      simp only [Act.put, List.setIfInBounds_toArray, List.set_cons_zero, List.set_cons_succ]
      refine wpAnyH_take (i := 1) (oi := ⟨some 43, .move (.tmp 1), 3, "law.go:112", #[], none⟩) (v := (.int .i64 0)) rfl (by kernel_rfl) (by kernel_rfl) (by kernel_rfl) (fun _ _ _ h => h) (Or.inl ⟨by rfl, fun _ _ => by rfl⟩) hHeld ?_
      simp only [Act.put, List.setIfInBounds_toArray, List.set_cons_zero, List.set_cons_succ]
      refine wpAnyH_take (i := 2) (oi := ⟨some 44, .nilCheck (.tmp 42), 0, "law.go:112", #[⟨0, .data⟩], none⟩) (v := (.pointer (some ⟨pb, 0, none⟩))) rfl (by kernel_rfl) (by kernel_rfl) (by kernel_rfl) (fun _ _ _ h => h) (Or.inl ⟨by rfl, fun _ _ => by rfl⟩) hHeld ?_
      simp only [Act.put, List.setIfInBounds_toArray, List.set_cons_zero, List.set_cons_succ]
      refine wpAnyH_take (i := 3) (oi := ⟨some 45, .fieldAddr 71 (.tmp 44) 1, 0, "law.go:112", #[⟨2, .data⟩], none⟩) (v := (.pointer (some ⟨pb, 2, none⟩))) rfl (by kernel_rfl) (by kernel_rfl) (by kernel_rfl) (fun _ _ _ h => h) (Or.inl ⟨by rfl, fun _ _ => by rfl⟩) hHeld ?_
      simp only [Act.put, List.setIfInBounds_toArray, List.set_cons_zero, List.set_cons_succ]
      refine wpAnyH_take (i := 4) (oi := ⟨some 46, .indexAddr 68 (.tmp 45) (.tmp 43), 0, "law.go:112", #[⟨3, .data⟩, ⟨1, .data⟩], none⟩) (v := (.pointer (some ⟨pb, 2, none⟩))) rfl (by kernel_rfl) (by kernel_rfl) (by kernel_rfl) (fun _ _ _ h => h) (Or.inl ⟨by rfl, fun w' h' => by unfold execOp; go_simp⟩) hHeld ?_
      simp only [Act.put, List.setIfInBounds_toArray, List.set_cons_zero, List.set_cons_succ]
      refine wpAnyH_take (i := 5) (oi := ⟨some 47, .load 52 (.tmp 46), 52, "law.go:112", #[⟨4, .data⟩], none⟩) (v := (.pointer (some ⟨b 0, 0, none⟩))) rfl (by kernel_rfl) (by kernel_rfl) (by kernel_rfl) (fun _ _ _ h => h) (Or.inl ⟨by rfl, fun w' h' => by have e1 := h'.1; have e2 := h'.2.1; have e3 := h'.2.2; unfold execOp; go_simp⟩) hHeld ?_
      simp only [Act.put, List.setIfInBounds_toArray, List.set_cons_zero, List.set_cons_succ]
      refine wpAnyH_take (i := 6) (oi := ⟨some 48, .fieldAddr 59 (.tmp 5) 5, 0, "law.go:112", #[], none⟩) (v := (.pointer (some ⟨w.heap.size, 5, none⟩))) rfl (by kernel_rfl) (by kernel_rfl) (by kernel_rfl) (fun _ _ _ h => h) (Or.inl ⟨by rfl, fun _ _ => by rfl⟩) hHeld ?_
      simp only [Act.put, List.setIfInBounds_toArray, List.set_cons_zero, List.set_cons_succ]
      refine wpAnyH_take (i := 7) (oi := ⟨some 49, .load 3 (.tmp 48), 3, "law.go:112", #[⟨6, .data⟩], none⟩) (v := (.int .i64 o.to)) rfl (by kernel_rfl) (by kernel_rfl) (by kernel_rfl) (fun _ _ _ h => h) (Or.inl ⟨by rfl, fun w' h' => by have e1 := h'.1; have e2 := h'.2.1; have e3 := h'.2.2; unfold execOp; go_simp⟩) hHeld ?_
      simp only [Act.put, List.setIfInBounds_toArray, List.set_cons_zero, List.set_cons_succ]
      refine wpAnyH_take (i := 8) (oi := ⟨some 50, .fieldAddr 59 (.tmp 5) 6, 0, "law.go:112", #[], none⟩) (v := (.pointer (some ⟨w.heap.size, 6, none⟩))) rfl (by kernel_rfl) (by kernel_rfl) (by kernel_rfl) (fun _ _ _ h => h) (Or.inl ⟨by rfl, fun _ _ => by rfl⟩) hHeld ?_
      simp only [Act.put, List.setIfInBounds_toArray, List.set_cons_zero, List.set_cons_succ]
      refine wpAnyH_take (i := 9) (oi := ⟨some 51, .load 22 (.tmp 50), 22, "law.go:112", #[⟨8, .data⟩], none⟩) (v := (.slice o.da o.dn o.dc)) rfl (by kernel_rfl) (by kernel_rfl) (by kernel_rfl) (fun _ _ _ h => h) (Or.inl ⟨by rfl, fun w' h' => by have e1 := h'.1; have e2 := h'.2.1; have e3 := h'.2.2; unfold execOp; go_simp⟩) hHeld ?_
      simp only [Act.put, List.setIfInBounds_toArray, List.set_cons_zero, List.set_cons_succ]
      refine wpAnyH_take (i := 10) (oi := ⟨some 52, .build 28 #[(0, .tmp 49), (1, .tmp 51)], 28, "law.go:112", #[⟨7, .data⟩, ⟨9, .data⟩], none⟩) (v := (.agg #[.int .i64 o.to, (.slice o.da o.dn o.dc)])) rfl (by kernel_rfl) (by kernel_rfl) (by kernel_rfl) (fun _ _ _ h => h) (Or.inl ⟨by rfl, fun w' h' => by unfold execOp; go_simp⟩) hHeld ?_
      simp only [Act.put, List.setIfInBounds_toArray, List.set_cons_zero, List.set_cons_succ]
      refine wpAnyH_ready (rs := [11]) (by kernel_rfl) (by simp) ?_
      refine AllReadyH.cons (o := ⟨some 53, .call ⟨.value (.func 24), #[.tmp 47, .tmp 52], #[52, 28]⟩, 3, "law.go:112", #[⟨5, .data⟩, ⟨10, .data⟩], none⟩) rfl (fun KK hK => ?_) (AllReadyH.nil)
      go_simp
      refine hD.mono ?_
      rintro e w7 ⟨rfl, hN7, t7⟩
      obtain ⟨P7, F7⟩ := HM6.out.pl.stepD hc hN7 t7 (fun i hi _ => rl_old hi)
      have M7 := HM6.out.step hk P7 F7
      have y0 := P7.cell 2 _ rfl
      have y4 := P7.cell 4 _ rfl
      have y6 := P7.cell 6 _ rfl
      have y5 := M7.o5
      have y7 := M7.o6
      have HM7 : Hid (Mid w0 w w7 lab _ k pb a b (.slice ba es.length bc) st _ _ _ es o w.heap.size _) := M7
      clear hD M7 P7 F7 hN7 t7 HM6
      go_wp2_with fail
      refine hK.out _ _ ⟨y0, y5, y7⟩ (fun hHeld => ?_)
      clear hK KK
      try simp only [Act.put, List.setIfInBounds_toArray, List.set_cons_zero, List.set_cons_succ]
      refine wpAnyH_take (i := 12) (oi := ⟨some 9, .assign (.tmp 53), 3, "law.go:112", #[⟨11, .data⟩, ⟨11, .chain⟩, ⟨0, .phase⟩, ⟨1, .phase⟩, ⟨2, .phase⟩, ⟨3, .phase⟩, ⟨4, .phase⟩, ⟨5, .phase⟩, ⟨6, .phase⟩, ⟨7, .phase⟩, ⟨8, .phase⟩, ⟨9, .phase⟩, ⟨10, .phase⟩, ⟨11, .phase⟩], none⟩) (v := (.int .i64 (sendA (S 0)))) rfl (by kernel_rfl) (by kernel_rfl) (by kernel_rfl) (fun _ _ _ h => h) (Or.inl ⟨by rfl, fun _ _ => by rfl⟩) hHeld ?_
      simp only [Act.put, List.setIfInBounds_toArray, List.set_cons_zero, List.set_cons_succ]
      refine wpAnyH_done (by kernel_rfl) ?_ _
      have i7 := hO _ HM7.out.wk.b
      have hr8 := roomy_any o.da o.dn o.dc o.Z w7 i7.le i7.li
      clear i7
      go_wp2_with fail
      refine hr8.mono ?_
      rintro e w8 ⟨g2, c2, rfl, ho8, b8⟩
      have M8 := HM7.out.below hk b8
      have hs8 := same_any (some ⟨g, 0, none⟩) (some ⟨g2, 0, none⟩) (o.dn + 3) (o.dn + 3) c' c2 (o.Z ++ [201, 202, 203]) (o.Z ++ [201, 202, 203]) w8 (by have := HI.out.le; omega) (Lies.owned M8.row) (Lies.owned ho8)
      have HM8 : Hid (Mid w0 w w8 lab _ k pb a b (.slice ba es.length bc) st _ _ _ es o w.heap.size _) := M8
      clear M8 HM7 hr8 y0 y4 y5 y6 y7 ho8 b8
      go_wp2_with fail
      refine hs8.mono ?_
      rintro e w9 ⟨rfl, m9, hw9⟩
      have b9 : Below w8.heap.size w8 w9 := by rw [hw9]; exact below_drewN w8 m9
      have M9 := HM8.out.below hk b9
      have p4 := M9.pl.cell 4 _ rfl
      have p6 := M9.pl.cell 6 _ rfl
      have HM9 : Hid (Mid w0 w w9 lab _ k pb a b (.slice ba es.length bc) st _ _ _ es o w.heap.size _) := M9
      have hdd : decide (o.Z ++ [201, 202, 203] = o.Z ++ [201, 202, 203]) = true := decide_eq_true rfl
      have hbb : (sendA (S 0) == sendA (S 0)) = true := by simp
      clear hw9 M9 HM8 hs8 b9
      by_cases hE : es.length < 900
      · have hEi : (es.length : Int) < 900 := by omega
        go_wp2_with fail
        go_ret
        exact ⟨rfl, _, _, _, _, by rw [hR]; exact HM9.out.pl, HM9.out.fr, Or.inl (Nat.le_refl _)⟩
      · have hEi : ¬ (es.length : Int) < 900 := by omega
        go_wp2_with fail
        go_ret
        exact ⟨rfl, _, _, _, _, by rw [hR]; exact HM9.out.pl, HM9.out.fr, Or.inl (Nat.le_refl _)⟩
    · rw [show ((1 : Nat) : Int) = 1 from rfl]
      go_enter Try.func37, Try.ntmps37
      go_wp2_with fail
      refine hrm.mono ?_
      rintro e w3 ⟨g, c', rfl, ho3, b3⟩
      have M3 : Mid w0 w w3 lab (rl L1 W2 (k + 6)) k pb a b (.slice ba es.length bc) st _ S R es o w.heap.size (.slice (some ⟨g, 0, none⟩) (o.dn + 3) c') :=
        ⟨HP.out.below b3 (k + 6), HF.out.trans (Fr.below b3 (k + 6)), HW.out.below b3 (k + 6), ((Fr.below b3 (k + 6)).box HY.out.1 HY.out.2).1, ((Fr.below b3 (k + 6)).box HY.out.1 HY.out.2).2, ownsRow_mono ho3 (Nat.zero_le _), fun i q => by rw [rl_new (own_ge ho3 q)]; exact fun q => by have := q.2; omega, fun i q => Nat.le_trans HF.out.t.size (own_ge ho3 q)⟩
      generalize rl L1 W2 (k + 6) = L3 at M3
      have M4 := M3.below hk (below_drewN w3 1)
      generalize rl L3 w3 (k + 6) = L4 at M4
      have hl4 : Lies (w3.drewN 1) (some ⟨g, 0, none⟩) (o.dn + 3) c' (o.Z ++ [201, 202, 203]) := Lies.owned M4.row
      have hle3 := hl4.hle
      have hS := sendN (M4.pl.n 1 hc) hlast o.to (some ⟨g, 0, none⟩) o.dn c' o.Z (hl4.first HI.out.li.hlen) (Nat.le_trans HI.out.le (by decide))
      have HSs : Hid (ShT _ (sendS (S 1) o.to o.Z)) := HSh.out M4.pl.short
      have p1 := M3.pl.cell 1 _ rfl
      have o5 := M3.o5
      have o6' := M3.o6
      have hsl : (o.dn : Int) ≤ c' := by omega
      have HM4 : Hid (Mid w0 w (w3.drewN 1) lab L4 k pb a b (.slice ba es.length bc) st _ S R es o w.heap.size _) := M4
      clear M3 M4 hl4 hrm HP HF HW HY c6 f6 o6 q6
      go_wp2_with fail
      refine wp_region_held_drew (S := fun w' => w'.cell? ⟨pb, 1, none⟩ = some (.pointer (some ⟨a 1, 0, none⟩)) ∧ w'.cell? ⟨w.heap.size, 5, none⟩ = some (.int .i64 o.to) ∧ w'.cell? ⟨w.heap.size, 6, none⟩ = some (.slice o.da o.dn o.dc)) (by kernel_rfl) ⟨p1, o5, o6'⟩ (fun hHeld => ?_)
      refine wpAnyH_take (i := 0) (oi := ⟨some 27, .move (.tmp 0), 66, "law.go:111", #[], none⟩) (v := (.pointer (some ⟨pb, 0, none⟩))) rfl (by kernel_rfl) (by kernel_rfl) (by kernel_rfl) (fun _ _ _ h => h) (Or.inl ⟨by rfl, fun _ _ => by rfl⟩) hHeld ?_
      simp only [Act.put, List.setIfInBounds_toArray, List.set_cons_zero, List.set_cons_succ]
      refine wpAnyH_take (i := 1) (oi := ⟨some 28, .move (.tmp 1), 3, "law.go:111", #[], none⟩) (v := (.int .i64 1)) rfl (by kernel_rfl) (by kernel_rfl) (by kernel_rfl) (fun _ _ _ h => h) (Or.inl ⟨by rfl, fun _ _ => by rfl⟩) hHeld ?_
      simp only [Act.put, List.setIfInBounds_toArray, List.set_cons_zero, List.set_cons_succ]
      refine wpAnyH_take (i := 2) (oi := ⟨some 29, .nilCheck (.tmp 27), 0, "law.go:111", #[⟨0, .data⟩], none⟩) (v := (.pointer (some ⟨pb, 0, none⟩))) rfl (by kernel_rfl) (by kernel_rfl) (by kernel_rfl) (fun _ _ _ h => h) (Or.inl ⟨by rfl, fun _ _ => by rfl⟩) hHeld ?_
      simp only [Act.put, List.setIfInBounds_toArray, List.set_cons_zero, List.set_cons_succ]
      refine wpAnyH_take (i := 3) (oi := ⟨some 30, .fieldAddr 71 (.tmp 29) 0, 0, "law.go:111", #[⟨2, .data⟩], none⟩) (v := (.pointer (some ⟨pb, 0, none⟩))) rfl (by kernel_rfl) (by kernel_rfl) (by kernel_rfl) (fun _ _ _ h => h) (Or.inl ⟨by rfl, fun _ _ => by rfl⟩) hHeld ?_
      simp only [Act.put, List.setIfInBounds_toArray, List.set_cons_zero, List.set_cons_succ]
      refine wpAnyH_take (i := 4) (oi := ⟨some 31, .indexAddr 67 (.tmp 30) (.tmp 28), 0, "law.go:111", #[⟨3, .data⟩, ⟨1, .data⟩], none⟩) (v := (.pointer (some ⟨pb, 1, none⟩))) rfl (by kernel_rfl) (by kernel_rfl) (by kernel_rfl) (fun _ _ _ h => h) (Or.inl ⟨by rfl, fun w' h' => by unfold execOp; go_simp⟩) hHeld ?_
      simp only [Act.put, List.setIfInBounds_toArray, List.set_cons_zero, List.set_cons_succ]
      refine wpAnyH_take (i := 5) (oi := ⟨some 32, .load 24 (.tmp 31), 24, "law.go:111", #[⟨4, .data⟩], none⟩) (v := (.pointer (some ⟨a 1, 0, none⟩))) rfl (by kernel_rfl) (by kernel_rfl) (by kernel_rfl) (fun _ _ _ h => h) (Or.inl ⟨by rfl, fun w' h' => by have e1 := h'.1; have e2 := h'.2.1; have e3 := h'.2.2; unfold execOp; go_simp⟩) hHeld ?_
      simp only [Act.put, List.setIfInBounds_toArray, List.set_cons_zero, List.set_cons_succ]
      refine wpAnyH_take (i := 6) (oi := ⟨some 33, .fieldAddr 59 (.tmp 5) 5, 0, "law.go:111", #[], none⟩) (v := (.pointer (some ⟨w.heap.size, 5, none⟩))) rfl (by kernel_rfl) (by kernel_rfl) (by kernel_rfl) (fun _ _ _ h => h) (Or.inl ⟨by rfl, fun _ _ => by rfl⟩) hHeld ?_
      simp only [Act.put, List.setIfInBounds_toArray, List.set_cons_zero, List.set_cons_succ]
      refine wpAnyH_take (i := 7) (oi := ⟨some 34, .load 3 (.tmp 33), 3, "law.go:111", #[⟨6, .data⟩], none⟩) (v := (.int .i64 o.to)) rfl (by kernel_rfl) (by kernel_rfl) (by kernel_rfl) (fun _ _ _ h => h) (Or.inl ⟨by rfl, fun w' h' => by have e1 := h'.1; have e2 := h'.2.1; have e3 := h'.2.2; unfold execOp; go_simp⟩) hHeld ?_
      simp only [Act.put, List.setIfInBounds_toArray, List.set_cons_zero, List.set_cons_succ]
      refine wpAnyH_take (i := 8) (oi := ⟨some 35, .move (.tmp 7), 22, "law.go:111", #[], none⟩) (v := (.slice (some ⟨g, 0, none⟩) (o.dn + 3) c')) rfl (by kernel_rfl) (by kernel_rfl) (by kernel_rfl) (fun _ _ _ h => h) (Or.inl ⟨by rfl, fun _ _ => by rfl⟩) hHeld ?_
      simp only [Act.put, List.setIfInBounds_toArray, List.set_cons_zero, List.set_cons_succ]
      refine wpAnyH_take (i := 9) (oi := ⟨some 36, .fieldAddr 59 (.tmp 5) 6, 0, "law.go:111", #[], none⟩) (v := (.pointer (some ⟨w.heap.size, 6, none⟩))) rfl (by kernel_rfl) (by kernel_rfl) (by kernel_rfl) (fun _ _ _ h => h) (Or.inl ⟨by rfl, fun _ _ => by rfl⟩) hHeld ?_
      simp only [Act.put, List.setIfInBounds_toArray, List.set_cons_zero, List.set_cons_succ]
      refine wpAnyH_take (i := 10) (oi := ⟨some 37, .load 22 (.tmp 36), 22, "law.go:111", #[⟨9, .data⟩], none⟩) (v := (.slice o.da o.dn o.dc)) rfl (by kernel_rfl) (by kernel_rfl) (by kernel_rfl) (fun _ _ _ h => h) (Or.inl ⟨by rfl, fun w' h' => by have e1 := h'.1; have e2 := h'.2.1; have e3 := h'.2.2; unfold execOp; go_simp⟩) hHeld ?_
      simp only [Act.put, List.setIfInBounds_toArray, List.set_cons_zero, List.set_cons_succ]
      refine wpAnyH_take (i := 11) (oi := ⟨some 38, .call ⟨.builtin .len, #[.tmp 37], #[22]⟩, 3, "law.go:111", #[⟨10, .data⟩], none⟩) (v := (.int .i64 o.dn)) rfl (by kernel_rfl) (by kernel_rfl) (by kernel_rfl) (fun _ _ _ h => h) (Or.inl ⟨by rfl, fun w' h' => by unfold execOp; go_simp⟩) hHeld ?_
      simp only [Act.put, List.setIfInBounds_toArray, List.set_cons_zero, List.set_cons_succ]
      refine wpAnyH_take (i := 12) (oi := ⟨some 39, .slice 22 (.tmp 35) none (some (.tmp 38)) none, 22, "law.go:111", #[⟨8, .data⟩, ⟨11, .data⟩], none⟩) (v := (.slice (some ⟨g, 0, none⟩) o.dn c')) rfl (by kernel_rfl) (by kernel_rfl) (by kernel_rfl) (fun _ _ _ h => h) (Or.inl ⟨by rfl, fun w' h' => by unfold execOp; go_simp⟩) hHeld ?_
      simp only [Act.put, List.setIfInBounds_toArray, List.set_cons_zero, List.set_cons_succ]
      refine wpAnyH_take (i := 13) (oi := ⟨some 40, .build 28 #[(0, .tmp 34), (1, .tmp 39)], 28, "law.go:111", #[⟨7, .data⟩, ⟨12, .data⟩], none⟩) (v := (.agg #[.int .i64 o.to, (.slice (some ⟨g, 0, none⟩) o.dn c')])) rfl (by kernel_rfl) (by kernel_rfl) (by kernel_rfl) (fun _ _ _ h => h) (Or.inl ⟨by rfl, fun w' h' => by unfold execOp; go_simp⟩) hHeld ?_
      simp only [Act.put, List.setIfInBounds_toArray, List.set_cons_zero, List.set_cons_succ]
      refine wpAnyH_ready (rs := [14]) (by kernel_rfl) (by simp) ?_
      refine AllReadyH.cons (o := ⟨some 41, .call ⟨.value (.func 11), #[.tmp 32, .tmp 40], #[24, 28]⟩, 3, "law.go:111", #[⟨5, .data⟩, ⟨13, .data⟩], none⟩) rfl (fun KK hK => ?_) (AllReadyH.nil)
      go_simp
      refine hS.mono ?_
      rintro e w5 ⟨rfl, hN5, t5⟩
      obtain ⟨P5, F5⟩ := HM4.out.pl.stepN hc hN5 t5 (fun i hi _ => rl_old hi) HSs.out
      have M5 := HM4.out.step hk P5 F5
      have x0 := P5.cell 1 _ rfl
      have x2 := P5.cell 3 _ rfl
      have x5 := M5.o5
      have x6 := M5.o6
      have HM5 : Hid (Mid w0 w w5 lab _ k pb a b (.slice ba es.length bc) st _ _ R es o w.heap.size _) := M5
      clear hS M5 P5 F5 hN5 t5 HM4
      go_wp2_with fail
      refine hK.out _ _ ⟨x0, x5, x6⟩ (fun hHeld => ?_)
      clear hK KK
      try simp only [Act.put, List.setIfInBounds_toArray, List.set_cons_zero, List.set_cons_succ]
      refine wpAnyH_take (i := 15) (oi := ⟨some 8, .assign (.tmp 41), 3, "law.go:111", #[⟨14, .data⟩, ⟨14, .chain⟩, ⟨0, .phase⟩, ⟨1, .phase⟩, ⟨2, .phase⟩, ⟨3, .phase⟩, ⟨4, .phase⟩, ⟨5, .phase⟩, ⟨6, .phase⟩, ⟨7, .phase⟩, ⟨8, .phase⟩, ⟨9, .phase⟩, ⟨10, .phase⟩, ⟨11, .phase⟩, ⟨12, .phase⟩, ⟨13, .phase⟩, ⟨14, .phase⟩], none⟩) (v := (.int .i64 (sendA (S 1)))) rfl (by kernel_rfl) (by kernel_rfl) (by kernel_rfl) (fun _ _ _ h => h) (Or.inl ⟨by rfl, fun _ _ => by rfl⟩) hHeld ?_
      simp only [Act.put, List.setIfInBounds_toArray, List.set_cons_zero, List.set_cons_succ]
      refine wpAnyH_done (by kernel_rfl) ?_ _
      go_wp2_with fail
      have M6 := HM5.out.below hk (below_drewN w5 1)
      have i6 := hO _ M6.wk.b
      have hD := dsendN (M6.pl.d 1 hc) (by rw [hR]; exact hlast) o.to o.da o.dn o.dc o.Z i6.li (Nat.le_trans HI.out.le (by decide))
      rw [hR] at hD
      have HM6 : Hid (Mid w0 w (w5.drewN 1) lab _ k pb a b (.slice ba es.length bc) st _ _ R es o w.heap.size _) := M6
      clear M6 HM5 i6
      refine wp_region_held_drew (S := fun w' => w'.cell? ⟨pb, 3, none⟩ = some (.pointer (some ⟨b 1, 0, none⟩)) ∧ w'.cell? ⟨w.heap.size, 5, none⟩ = some (.int .i64 o.to) ∧ w'.cell? ⟨w.heap.size, 6, none⟩ = some (.slice o.da o.dn o.dc)) (by kernel_rfl) ⟨x2, x5, x6⟩ (fun hHeld => ?_)
      refine wpAnyH_take (i := 0) (oi := ⟨some 42, .move (.tmp 0), 66, "law.go:112", #[], none⟩) (v := (.pointer (some ⟨pb, 0, none⟩))) rfl (by kernel_rfl) (by kernel_rfl) (by kernel_rfl) (fun _ _ _ h => h) (Or.inl ⟨by rfl, fun _ _ => by rfl⟩) hHeld ?_
      simp only [Act.put, List.setIfInBounds_toArray, List.set_cons_zero, List.set_cons_succ]
      refine wpAnyH_take (i := 1) (oi := ⟨some 43, .move (.tmp 1), 3, "law.go:112", #[], none⟩) (v := (.int .i64 1)) rfl (by kernel_rfl) (by kernel_rfl) (by kernel_rfl) (fun _ _ _ h => h) (Or.inl ⟨by rfl, fun _ _ => by rfl⟩) hHeld ?_
      simp only [Act.put, List.setIfInBounds_toArray, List.set_cons_zero, List.set_cons_succ]
      refine wpAnyH_take (i := 2) (oi := ⟨some 44, .nilCheck (.tmp 42), 0, "law.go:112", #[⟨0, .data⟩], none⟩) (v := (.pointer (some ⟨pb, 0, none⟩))) rfl (by kernel_rfl) (by kernel_rfl) (by kernel_rfl) (fun _ _ _ h => h) (Or.inl ⟨by rfl, fun _ _ => by rfl⟩) hHeld ?_
      simp only [Act.put, List.setIfInBounds_toArray, List.set_cons_zero, List.set_cons_succ]
      refine wpAnyH_take (i := 3) (oi := ⟨some 45, .fieldAddr 71 (.tmp 44) 1, 0, "law.go:112", #[⟨2, .data⟩], none⟩) (v := (.pointer (some ⟨pb, 2, none⟩))) rfl (by kernel_rfl) (by kernel_rfl) (by kernel_rfl) (fun _ _ _ h => h) (Or.inl ⟨by rfl, fun _ _ => by rfl⟩) hHeld ?_
      simp only [Act.put, List.setIfInBounds_toArray, List.set_cons_zero, List.set_cons_succ]
      refine wpAnyH_take (i := 4) (oi := ⟨some 46, .indexAddr 68 (.tmp 45) (.tmp 43), 0, "law.go:112", #[⟨3, .data⟩, ⟨1, .data⟩], none⟩) (v := (.pointer (some ⟨pb, 3, none⟩))) rfl (by kernel_rfl) (by kernel_rfl) (by kernel_rfl) (fun _ _ _ h => h) (Or.inl ⟨by rfl, fun w' h' => by unfold execOp; go_simp⟩) hHeld ?_
      simp only [Act.put, List.setIfInBounds_toArray, List.set_cons_zero, List.set_cons_succ]
      refine wpAnyH_take (i := 5) (oi := ⟨some 47, .load 52 (.tmp 46), 52, "law.go:112", #[⟨4, .data⟩], none⟩) (v := (.pointer (some ⟨b 1, 0, none⟩))) rfl (by kernel_rfl) (by kernel_rfl) (by kernel_rfl) (fun _ _ _ h => h) (Or.inl ⟨by rfl, fun w' h' => by have e1 := h'.1; have e2 := h'.2.1; have e3 := h'.2.2; unfold execOp; go_simp⟩) hHeld ?_
      simp only [Act.put, List.setIfInBounds_toArray, List.set_cons_zero, List.set_cons_succ]
      refine wpAnyH_take (i := 6) (oi := ⟨some 48, .fieldAddr 59 (.tmp 5) 5, 0, "law.go:112", #[], none⟩) (v := (.pointer (some ⟨w.heap.size, 5, none⟩))) rfl (by kernel_rfl) (by kernel_rfl) (by kernel_rfl) (fun _ _ _ h => h) (Or.inl ⟨by rfl, fun _ _ => by rfl⟩) hHeld ?_
      simp only [Act.put, List.setIfInBounds_toArray, List.set_cons_zero, List.set_cons_succ]
      refine wpAnyH_take (i := 7) (oi := ⟨some 49, .load 3 (.tmp 48), 3, "law.go:112", #[⟨6, .data⟩], none⟩) (v := (.int .i64 o.to)) rfl (by kernel_rfl) (by kernel_rfl) (by kernel_rfl) (fun _ _ _ h => h) (Or.inl ⟨by rfl, fun w' h' => by have e1 := h'.1; have e2 := h'.2.1; have e3 := h'.2.2; unfold execOp; go_simp⟩) hHeld ?_
      simp only [Act.put, List.setIfInBounds_toArray, List.set_cons_zero, List.set_cons_succ]
      refine wpAnyH_take (i := 8) (oi := ⟨some 50, .fieldAddr 59 (.tmp 5) 6, 0, "law.go:112", #[], none⟩) (v := (.pointer (some ⟨w.heap.size, 6, none⟩))) rfl (by kernel_rfl) (by kernel_rfl) (by kernel_rfl) (fun _ _ _ h => h) (Or.inl ⟨by rfl, fun _ _ => by rfl⟩) hHeld ?_
      simp only [Act.put, List.setIfInBounds_toArray, List.set_cons_zero, List.set_cons_succ]
      refine wpAnyH_take (i := 9) (oi := ⟨some 51, .load 22 (.tmp 50), 22, "law.go:112", #[⟨8, .data⟩], none⟩) (v := (.slice o.da o.dn o.dc)) rfl (by kernel_rfl) (by kernel_rfl) (by kernel_rfl) (fun _ _ _ h => h) (Or.inl ⟨by rfl, fun w' h' => by have e1 := h'.1; have e2 := h'.2.1; have e3 := h'.2.2; unfold execOp; go_simp⟩) hHeld ?_
      simp only [Act.put, List.setIfInBounds_toArray, List.set_cons_zero, List.set_cons_succ]
      refine wpAnyH_take (i := 10) (oi := ⟨some 52, .build 28 #[(0, .tmp 49), (1, .tmp 51)], 28, "law.go:112", #[⟨7, .data⟩, ⟨9, .data⟩], none⟩) (v := (.agg #[.int .i64 o.to, (.slice o.da o.dn o.dc)])) rfl (by kernel_rfl) (by kernel_rfl) (by kernel_rfl) (fun _ _ _ h => h) (Or.inl ⟨by rfl, fun w' h' => by unfold execOp; go_simp⟩) hHeld ?_
      simp only [Act.put, List.setIfInBounds_toArray, List.set_cons_zero, List.set_cons_succ]
      refine wpAnyH_ready (rs := [11]) (by kernel_rfl) (by simp) ?_
      refine AllReadyH.cons (o := ⟨some 53, .call ⟨.value (.func 24), #[.tmp 47, .tmp 52], #[52, 28]⟩, 3, "law.go:112", #[⟨5, .data⟩, ⟨10, .data⟩], none⟩) rfl (fun KK hK => ?_) (AllReadyH.nil)
      go_simp
      refine hD.mono ?_
      rintro e w7 ⟨rfl, hN7, t7⟩
      obtain ⟨P7, F7⟩ := HM6.out.pl.stepD hc hN7 t7 (fun i hi _ => rl_old hi)
      have M7 := HM6.out.step hk P7 F7
      have y0 := P7.cell 3 _ rfl
      have y4 := P7.cell 4 _ rfl
      have y6 := P7.cell 6 _ rfl
      have y5 := M7.o5
      have y7 := M7.o6
      have HM7 : Hid (Mid w0 w w7 lab _ k pb a b (.slice ba es.length bc) st _ _ _ es o w.heap.size _) := M7
      clear hD M7 P7 F7 hN7 t7 HM6
      go_wp2_with fail
      refine hK.out _ _ ⟨y0, y5, y7⟩ (fun hHeld => ?_)
      clear hK KK
      try simp only [Act.put, List.setIfInBounds_toArray, List.set_cons_zero, List.set_cons_succ]
      refine wpAnyH_take (i := 12) (oi := ⟨some 9, .assign (.tmp 53), 3, "law.go:112", #[⟨11, .data⟩, ⟨11, .chain⟩, ⟨0, .phase⟩, ⟨1, .phase⟩, ⟨2, .phase⟩, ⟨3, .phase⟩, ⟨4, .phase⟩, ⟨5, .phase⟩, ⟨6, .phase⟩, ⟨7, .phase⟩, ⟨8, .phase⟩, ⟨9, .phase⟩, ⟨10, .phase⟩, ⟨11, .phase⟩], none⟩) (v := (.int .i64 (sendA (S 1)))) rfl (by kernel_rfl) (by kernel_rfl) (by kernel_rfl) (fun _ _ _ h => h) (Or.inl ⟨by rfl, fun _ _ => by rfl⟩) hHeld ?_
      simp only [Act.put, List.setIfInBounds_toArray, List.set_cons_zero, List.set_cons_succ]
      refine wpAnyH_done (by kernel_rfl) ?_ _
      have i7 := hO _ HM7.out.wk.b
      have hr8 := roomy_any o.da o.dn o.dc o.Z w7 i7.le i7.li
      clear i7
      go_wp2_with fail
      refine hr8.mono ?_
      rintro e w8 ⟨g2, c2, rfl, ho8, b8⟩
      have M8 := HM7.out.below hk b8
      have hs8 := same_any (some ⟨g, 0, none⟩) (some ⟨g2, 0, none⟩) (o.dn + 3) (o.dn + 3) c' c2 (o.Z ++ [201, 202, 203]) (o.Z ++ [201, 202, 203]) w8 (by have := HI.out.le; omega) (Lies.owned M8.row) (Lies.owned ho8)
      have HM8 : Hid (Mid w0 w w8 lab _ k pb a b (.slice ba es.length bc) st _ _ _ es o w.heap.size _) := M8
      clear M8 HM7 hr8 y0 y4 y5 y6 y7 ho8 b8
      go_wp2_with fail
      refine hs8.mono ?_
      rintro e w9 ⟨rfl, m9, hw9⟩
      have b9 : Below w8.heap.size w8 w9 := by rw [hw9]; exact below_drewN w8 m9
      have M9 := HM8.out.below hk b9
      have p4 := M9.pl.cell 4 _ rfl
      have p6 := M9.pl.cell 6 _ rfl
      have HM9 : Hid (Mid w0 w w9 lab _ k pb a b (.slice ba es.length bc) st _ _ _ es o w.heap.size _) := M9
      have hdd : decide (o.Z ++ [201, 202, 203] = o.Z ++ [201, 202, 203]) = true := decide_eq_true rfl
      have hbb : (sendA (S 1) == sendA (S 1)) = true := by simp
      clear hw9 M9 HM8 hs8 b9
      by_cases hE : es.length < 900
      · have hEi : (es.length : Int) < 900 := by omega
        go_wp2_with fail
        go_ret
        exact ⟨rfl, _, _, _, _, by rw [hR]; exact HM9.out.pl, HM9.out.fr, Or.inl (Nat.le_refl _)⟩
      · have hEi : ¬ (es.length : Int) < 900 := by omega
        go_wp2_with fail
        go_ret
        exact ⟨rfl, _, _, _, _, by rw [hR]; exact HM9.out.pl, HM9.out.fr, Or.inl (Nat.le_refl _)⟩
end Go.Proofs.Ytpbanjgjljdepaa
