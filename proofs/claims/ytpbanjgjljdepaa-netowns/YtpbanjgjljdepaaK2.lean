/- known, by its contract. -/
import Derived.Test.YtpbanjgjljdepaaK1
namespace Go.Proofs.Ytpbanjgjljdepaa
open Go.RowKit Go.Maps
set_option maxRecDepth 100000
variable {w w' : World} {lab lab' : Nat → Nat} {k j xb : Nat} {v : Value} {F : Nat → Prop} {S : St}

/-- The next label function, by a name of its own. -/
theorem Nt.named (h : Nt w lab k xb S) {S' : St} (hS : S = S') : Nt w lab k xb S' := hS ▸ h
theorem Da.named {d d' : List Int} (h : Da w lab k d v) (hd : d = d') : Da w lab k d' v := hd ▸ h
theorem Da.step {d : List Int} (h : Da w lab j d v) (t : Turns (fun i => lab i = k) w w') (hj : j ≠ k) : Da w' (rl lab w k) j d v :=
  h.turns t (fun _ _ q r => hj (q.symm.trans r)) (fun _ hi q => (rl_old hi).trans q)
theorem Da.took {d : List Int} {u : Value} {m : Nat} (h : Da w lab j d v) (t : Turns (fun i => lab i = k) w w') (hj : j ≠ k) (hv : ∀ b, u.ownBlock = some b → lab b = k ∧ b < w.heap.size) : Da w' (tl lab w k m u) j d v :=
  h.turns t (fun _ _ q r => hj (q.symm.trans r)) (fun i hi q => by
    rw [tl_off (fun r => hj (q.symm.trans (hv i r).1))]; exact (rl_old hi).trans q)
theorem Da.more {d : List Int} (h : Da w lab j d v) (b : Below w.heap.size w w') (m : Nat) : Da w' (rl lab w m) j d v :=
  h.turns (Below.turns b (fun _ => False)) (fun _ _ _ q => q) (fun _ hi q => (rl_old hi).trans q)
def K1S : St := ⟨1, [⟨1, 3, [1, 2]⟩]⟩
def K2S : St := ⟨2, [⟨1, 3, [1, 2]⟩, ⟨2, 3, [1, 2]⟩]⟩
def K3S : St := ⟨2, [⟨1, 3, [1, 6]⟩, ⟨2, 3, [1, 2]⟩]⟩
def K4S : St := ⟨2, [⟨2, 3, [1, 2]⟩]⟩
def K5S : St := ⟨2, []⟩
set_option maxHeartbeats 4000000 in
theorem known_any (w : World) : Calls Try.prog 9 #[] w fun e w' => e = .returned (.bool true) ∧ Below w.heap.size w w' := by
  go_enter Try.func9, Try.ntmps9
  go_wp2_with fail
  refine (new_any w (fun _ => 0) 1).mono ?_
  rintro e w1 ⟨xb, rfl, h1, b1⟩
  have B1 := (Wk.refl w).below b1 1
  generalize rl (fun _ => 0) w 1 = l1 at h1 B1
  clear b1
  obtain ⟨W1, hW1⟩ : ∃ W, w1.alloc (.cells #[.int .u8 1, .int .u8 2] 5) = W := ⟨_, rfl⟩
  have bA : Below w1.heap.size w1 W1 := by rw [← hW1]; exact (Below.refl _ w1).alloc (Nat.le_refl _) _
  have zA : W1.heap[w1.heap.size]? = some (bl [1, 2]) := by rw [← hW1]; exact heap_alloc_new w1 _
  have hS := sendN (h1.below bA 1) (by decide) 3 (some ⟨w1.heap.size, 0, none⟩) 2 2 [1, 2] (Lies.full zA rfl) (by decide)
  have BA := B1.below bA 1
  generalize rl l1 w1 1 = lA at hS BA
  clear h1 B1 bA zA
  go_wp2_with fail
  refine hS.mono ?_
  rintro e w2 ⟨rfl, h2, t2⟩
  have B2 := BA.step t2 (by decide)
  replace h2 : Nt w2 (rl lA W1 1) 1 xb K1S := h2
  generalize rl lA W1 1 = l2 at h2 B2
  clear hS BA t2 hW1
  rw [show sendA S0 = 1 from rfl]
  go_wp2_with fail
  refine (copyN h2 (by decide) (no := 1) ⟨by decide, by decide⟩).mono ?_
  rintro e w3 ⟨rfl, h3, t3⟩
  have B3 := B2.step t3 (by decide)
  replace h3 : Nt w3 (rl l2 w2 1) 1 xb K2S := h3
  generalize rl l2 w2 1 = l3 at h3 B3
  clear h2 B2 t3
  rw [show copyA K1S 1 = 2 from rfl, show takeE K1S 1 = 0 from rfl]
  go_wp2_with fail
  refine (flipN h3 (no := 1) (at_ := 1) (v := 4) ⟨by decide, by decide⟩).mono ?_
  rintro e w4 ⟨rfl, h4, t4⟩
  have B4 := B3.step t4 (by decide)
  replace h4 : Nt w4 (rl l3 w3 1) 1 xb K3S := h4
  generalize rl l3 w3 1 = l4 at h4 B4
  clear h3 B3 t4
  rw [show flipE K2S 1 1 4 = 0 from rfl]
  go_wp2_with fail
  refine (takeN h4 (no := 1) ⟨by decide, by decide⟩ 2).mono ?_
  rintro e w5 ⟨p, rfl, h5, d5, t5, hp⟩
  have B5 := B4.take t5 (by decide) hp 2
  replace h5 : Nt w5 (tl l4 w4 1 2 p) 1 xb K4S := h5
  replace d5 : Da w5 (tl l4 w4 1 2 p) 2 [1, 6] p := d5
  generalize tl l4 w4 1 2 p = l5 at h5 d5 B5
  clear h4 B4 t5 hp
  rw [show takeE K3S 1 = 0 from rfl, show takeT K3S 1 = 3 from rfl]
  obtain ⟨pa, pc, hpv⟩ := d5.slice
  change p = .slice pa 2 pc at hpv
  subst hpv
  obtain ⟨W5, hW5⟩ : ∃ W, w5.alloc (.cells #[.int .i64 3, .slice pa 2 pc] 28) = W := ⟨_, rfl⟩
  have b5 : Below w5.heap.size w5 W5 := by rw [← hW5]; exact (Below.refl _ w5).alloc (Nat.le_refl _) _
  have z5 : W5.heap[w5.heap.size]? = some (.cells #[.int .i64 3, .slice pa 2 pc] 28) := by rw [← hW5]; exact heap_alloc_new w5 _
  have h5' := h5.below b5 3
  have d5' := d5.more b5 3
  have B5' := B5.below b5 3
  generalize hgen5 : rl l5 w5 3 = m5 at h5' d5' B5'
  have L5 : m5 w5.heap.size = 3 := by rw [← hgen5]; exact rl_new (Nat.le_refl _)
  clear h5 d5 B5 hgen5 b5
  go_wp2_with fail
  refine (takeN h5' (no := 2) ⟨by decide, by decide⟩ 4).mono ?_
  rintro e w6 ⟨q, rfl, h6, d6, t6, hq⟩
  have B6 := B5'.take t6 (by decide) hq 4
  replace h6 : Nt w6 (tl m5 W5 1 4 q) 1 xb K5S := h6
  replace d6 : Da w6 (tl m5 W5 1 4 q) 4 [1, 2] q := d6
  have e6 := d5'.took (m := 4) t6 (by decide) hq
  have z6 : w6.heap[w5.heap.size]? = some (.cells #[.int .i64 3, .slice pa 2 pc] 28) := (t6.block _ (heap_lt z5) (by rw [L5]; decide)).trans z5
  have L6 : tl m5 W5 1 4 q w5.heap.size = 3 := by
    rw [tl_off (fun r => by have := (hq _ r).1; rw [L5] at this; cases this), rl_old (heap_lt z5)]; exact L5
  generalize tl m5 W5 1 4 q = l6 at h6 d6 B6 e6 L6
  clear h5' d5' B5' t6 hq z5 L5
  rw [show takeE K4S 2 = 0 from rfl, show takeT K4S 2 = 3 from rfl]
  obtain ⟨qa, qc, hqv⟩ := d6.slice
  change q = .slice qa 2 qc at hqv
  subst hqv
  obtain ⟨W6, hW6⟩ : ∃ W, w6.alloc (.cells #[.int .i64 3, .slice qa 2 qc] 28) = W := ⟨_, rfl⟩
  have b6 : Below w6.heap.size w6 W6 := by rw [← hW6]; exact (Below.refl _ w6).alloc (Nat.le_refl _) _
  have y6 : W6.heap[w6.heap.size]? = some (.cells #[.int .i64 3, .slice qa 2 qc] 28) := by rw [← hW6]; exact heap_alloc_new w6 _
  have x6 := (b6.block _ (heap_lt z6)).trans z6
  have h6' := h6.below b6 3
  have d6' := d6.more b6 3
  have e6' := e6.more b6 3
  have B6' := B6.below b6 3
  have L6' : rl l6 w6 3 w5.heap.size = 3 := (rl_old (heap_lt z6)).trans L6
  have L7 : rl l6 w6 3 w6.heap.size = 3 := rl_new (Nat.le_refl _)
  generalize rl l6 w6 3 = m6 at h6' d6' B6' e6' L6' L7
  clear h6 d6 e6 B6 b6 L6 z6
  go_wp2_with fail
  refine (takeN h6' (no := 1) ⟨by decide, by decide⟩ 5).mono ?_
  rintro e w7 ⟨r, rfl, h7, d7, t7, hr⟩
  have B7 := B6'.take t7 (by decide) hr 5
  have p7 := e6'.took (m := 5) t7 (by decide) hr
  have q7 := d6'.took (m := 5) t7 (by decide) hr
  have x7 := (t7.block _ (heap_lt x6) (by rw [L6']; decide)).trans x6
  have y7 := (t7.block _ (heap_lt y6) (by rw [L7]; decide)).trans y6
  replace d7 : Da w7 (tl m6 W6 1 5 r) 5 [] r := d7
  rw [show takeE K5S 1 = 201 from rfl, show takeT K5S 1 = 0 from rfl]
  generalize tl m6 W6 1 5 r = l7 at h7 d7 B7 p7 q7
  obtain ⟨ra, rc, hrv⟩ := d7.slice
  change r = .slice ra 0 rc at hrv
  subst hrv
  have hb7 := B7.b
  have P7 : Lies w7 pa 2 pc [1, 6] := p7.lies rfl
  have Q7 : Lies w7 qa 2 qc [1, 2] := q7.lies rfl
  clear h6' d6' e6' B6' t7 hr L6' L7 x6 y6 h7 d7 B7 p7 q7
  obtain ⟨W7, hW7⟩ : ∃ W, w7.alloc (.cells #[.int .i64 0, .slice ra 0 rc] 28) = W := ⟨_, rfl⟩
  have b7 : Below w7.heap.size w7 W7 := by rw [← hW7]; exact (Below.refl _ w7).alloc (Nat.le_refl _) _
  have x8 := (b7.block _ (heap_lt x7)).trans x7
  have y8 := (b7.block _ (heap_lt y7)).trans y7
  have f0 : W7.cell? ⟨w5.heap.size, 0, none⟩ = some (.int .i64 3) := by simp [World.cell?, x8]
  have f1 : W7.cell? ⟨w5.heap.size, 1, none⟩ = some (.slice pa 2 pc) := by simp [World.cell?, x8]
  have g0 : W7.cell? ⟨w6.heap.size, 0, none⟩ = some (.int .i64 3) := by simp [World.cell?, y8]
  have g1 : W7.cell? ⟨w6.heap.size, 1, none⟩ = some (.slice qa 2 qc) := by simp [World.cell?, y8]
  have P8 := P7.below b7 (Nat.le_refl _)
  have Q8 := Q7.below b7 (Nat.le_refl _)
  have hb8 : Below w.heap.size w W7 := hb7.trans (b7.mono hb7.size)
  clear x7 y7 P7 Q7 b7 hb7 x8 y8
  obtain ⟨W8, hW8⟩ : ∃ W, W7.alloc (.cells #[.int .u8 1, .int .u8 6] 5) = W := ⟨_, rfl⟩
  have b8 : Below W7.heap.size W7 W8 := by rw [← hW8]; exact (Below.refl _ W7).alloc (Nat.le_refl _) _
  have z8 : W8.heap[W7.heap.size]? = some (bl [1, 6]) := by rw [← hW8]; exact heap_alloc_new W7 _
  have SP := same_any pa (some ⟨W7.heap.size, 0, none⟩) 2 2 pc 2 [1, 6] [1, 6] W8 (by decide) (P8.below b8 (Nat.le_refl _)) (Lies.full z8 rfl)
  have Q9 := Q8.below b8 (Nat.le_refl _)
  have g9 := cell_later b8 g1
  have hb9 : Below w.heap.size w W8 := hb8.trans (b8.mono hb8.size)
  simp only [decide_true] at SP
  clear P8 Q8 b8 z8 hb8
  go_wp2_with (go_at_call 13; refine (num_any _ _).mono ?_; rintro e wn ⟨rfl, hwn⟩; subst wn)
  refine SP.mono ?_
  rintro e w9 ⟨rfl, m9, rfl⟩
  obtain ⟨W9, hW9⟩ : ∃ W, (W8.drewN m9).alloc (.cells #[.int .u8 1, .int .u8 2] 5) = W := ⟨_, rfl⟩
  have b9 : Below W8.heap.size W8 W9 := by rw [← hW9]; exact (below_drewN W8 m9).alloc (Nat.le_refl _) _
  have z9 : W9.heap[W8.heap.size]? = some (bl [1, 2]) := by rw [← hW9]; exact heap_alloc_new (W8.drewN m9) _
  have SQ := same_any qa (some ⟨W8.heap.size, 0, none⟩) 2 2 qc 2 [1, 2] [1, 2] W9 (by decide) (Q9.below b9 (Nat.le_refl _)) (Lies.full z9 rfl)
  have g10 : (W8.drewN m9).cell? ⟨w6.heap.size, 1, none⟩ = some (.slice qa 2 qc) := g9
  simp only [decide_true] at SQ
  have hb10 : Below w.heap.size w W9 := hb9.trans (b9.mono hb9.size)
  clear SP Q9 b9 z9 hb9
  go_wp2_with fail
  refine SQ.mono ?_
  rintro e w10 ⟨rfl, m10, rfl⟩
  go_wp2_with fail
  go_ret
  exact ⟨by simp, hb10.trans ((below_drewN W9 m10).mono hb10.size)⟩
end Go.Proofs.Ytpbanjgjljdepaa
