/- step of AlarmPlays, by its contract. -/
import Derived.Test.YtbopghpfghaoeaaAQ0
namespace Go.Proofs.Ytbopghpfghaoeaa
open Go.RowKit Go.Maps
set_option maxRecDepth 100000
attribute [local go_sem ↓] Go.wp_at_zero Go.wp_at_succ
/-- What step leaves: the list v of n ints, labelled 4. -/
def StpR (w w' : World) (lab : Nat → Nat) (k q a d : Nat) (S : List (Int × Int)) (v : Value) : Prop := ∃ n xs S' lab', w'.ownsRow 0 3 1 v n xs ∧ n ≤ S.length ∧ (∀ c, v.ownBlock = some c → lab' c = 4) ∧ Pi w' lab' k q a d S' S' ∧ S'.length ≤ S.length + 1 ∧ Pg w w' lab lab' k q
theorem stp_nil {w w' : World} {lab lab' : Nat → Nat} {k q a d : Nat} {S S' : List (Int × Int)} (T : Pi w' lab' k q a d S' S') (hl : S'.length ≤ S.length + 1) (g : Pg w w' lab lab' k q) : StpR w w' lab k q a d S (.slice none 0 0) :=
  ⟨0, [], S', lab', World.ownsRow_nil _ _ _ _, Nat.zero_le _, fun c hc => (by cases hc), T, hl, g⟩
theorem box_four (w : World) (x y z u : Value) (t : TypeId) : (w.alloc (.cells #[x, y, z, u] t)).cell? ⟨w.heap.size, 0, none⟩ = some x ∧ (w.alloc (.cells #[x, y, z, u] t)).cell? ⟨w.heap.size, 2, none⟩ = some z ∧ (w.alloc (.cells #[x, y, z, u] t)).cell? ⟨w.heap.size, 3, none⟩ = some u := by
  have := heap_alloc_new w (.cells #[x, y, z, u] t)
  refine ⟨by simp only [World.cell?]; rw [this]; rfl, by simp only [World.cell?]; rw [this]; rfl, by simp only [World.cell?]; rw [this]; rfl⟩
theorem box_self (w : World) (x y : Value) (t : TypeId) : (w.alloc (.cells #[x, y] t)).setCell ⟨w.heap.size, 1, none⟩ y = w.alloc (.cells #[x, y] t) := by
  unfold World.setCell World.alloc
  congr 1
  apply Array.ext
  · simp
  · intro i h1 h2
    simp only [Array.getElem_modify]
    split
    · rename_i e
      have e2 : w.heap.size = i := e
      subst e2
      simp
    · rfl
set_option maxHeartbeats 8000000 in
theorem step_any {w : World} {lab : Nat → Nat} {k q a d : Nat} {S : List (Int × Int)} (h : Pi w lab k q a d S S) (hk4 : k ≠ 8) (hq4 : q ≠ 4) (hq8 : q ≠ 8) (kd : Int) (sc : Bool) (x t : Int) (hx : -9223372036854775808 ≤ x ∧ x ≤ 9223372036854775807) (hl : S.length < 4398046511104) :
    Calls Try.prog 34 #[.agg #[.int .i64 kd, .bool sc, .int .i64 x, .int .i64 t], .pointer (some ⟨a, 0, none⟩), .pointer (some ⟨d, 0, none⟩)] w fun e w' => ∃ v, e = .returned (.tuple #[v, .bool true]) ∧ StpR w w' lab k q a d S v := by
  obtain ⟨V1, hV1⟩ : ∃ V, w.alloc (.cells #[.int .i64 kd, .bool sc, .int .i64 x, .int .i64 t] 73) = V := ⟨_, rfl⟩
  obtain ⟨V2, hV2⟩ : ∃ V, V1.alloc (.cells #[.int .i64 x, .string ⟨#[]⟩] 51) = V := ⟨_, rfl⟩
  obtain ⟨x0, x2, x3⟩ := box_four w (.int .i64 kd) (.bool sc) (.int .i64 x) (.int .i64 t) 73
  rw [hV1] at x0 x2 x3
  obtain ⟨y0, y1, yf⟩ := box_two V1 (.int .i64 x) (.string ⟨#[]⟩) 51
  rw [hV2] at y0 y1
  replace yf := yf 1
  rw [hV2] at yf
  have hself : V2.setCell ⟨V1.heap.size, 1, none⟩ (.string ⟨#[]⟩) = V2 := by
    rw [← hV2]
    exact box_self V1 (.int .i64 x) (.string ⟨#[]⟩) _
  have b1 : Below w.heap.size w V1 := by rw [← hV1]; exact (Below.refl _ w).alloc (Nat.le_refl _) _
  have b2 : Below V1.heap.size V1 V2 := by rw [← hV2]; exact (Below.refl _ V1).alloc (Nat.le_refl _) _
  have hs1 : w.heap.size < V1.heap.size := World.block_lt_of_cell? V1 _ x0
  have z0 := (b2.cell (p := ⟨w.heap.size, 0, none⟩) hs1).trans x0
  have z2 := (b2.cell (p := ⟨w.heap.size, 2, none⟩) hs1).trans x2
  have z3 := (b2.cell (p := ⟨w.heap.size, 3, none⟩) hs1).trans x3
  have T2 := (h.below b1 8).below b2 8
  have g2 : Pg w V2 lab (rl (rl lab w 8) V1 8) k q := (Pg.below lab k q 8 b1).trans (Pg.below _ k q 8 b2)
  have hlx : rl (rl lab w 8) V1 8 w.heap.size = 8 := by rw [rl_old hs1]; exact rl_new (Nat.le_refl _)
  have hly : rl (rl lab w 8) V1 8 V1.heap.size = 8 := rl_new (Nat.le_refl _)
  generalize rl (rl lab w 8) V1 8 = lb at T2 g2 hlx hly
  have hs2 : V1.heap.size < V2.heap.size := World.block_lt_of_cell? V2 _ y0
  have G2 : Hid (Pg w V2 lab lb k q) := g2
  have hkx : ¬ (lb w.heap.size = k ∨ lb w.heap.size = q) := by rw [hlx]; rintro (e | e); exact hk4 e.symm; exact hq8 e.symm
  have hky : ¬ (lb V1.heap.size = k ∨ lb V1.heap.size = q) := by rw [hly]; rintro (e | e); exact hk4 e.symm; exact hq8 e.symm
  have hl1 : S.length ≤ S.length + 1 := by omega
  clear h b1 b2 g2
  by_cases k1 : kd = 1
  · subst k1
    go_enter Try.func34, Try.ntmps34
    go_wp2_with (first
      | (go_at_call 9; refine (T2.setA x t hx hl).mono ?_; rintro e' w5 ⟨rfl, l5, T5, g5⟩; have u3 := cell_turn z3 g5.t hkx; have u0 := cell_turn y0 g5.t hky; have u1 := cell_turn y1 g5.t hky)
      | (go_at_call 21; refine (T5.setD x t hl).mono ?_; rintro e' w6 ⟨rfl, l6, T6, g6⟩))
    go_ret2
    exact ⟨_, rfl, stp_nil T6 (setS_len (O := OI) S x t) ((G2.out.trans g5).trans g6)⟩
  · by_cases k2 : kd = 2
    · subst k2
      have HC : Hid (Calls Try.prog 11 #[.pointer (some ⟨a, 0, none⟩), .int .i64 x] V2.drew fun e w' => e = .returned (.bool (atS S x).isSome) ∧ PiR V2.drew w' lb k q a d (cutS S x) S) := (T2.drew 1).cancelA x hx
      go_enter Try.func34, Try.ntmps34
      go_wp2_with fail
      go_region_held3 (fun w' => w'.cell? ⟨w.heap.size, 2, none⟩ = some (.int .i64 x) ∧ w'.cell? ⟨V1.heap.size, 0, none⟩ = some (.int .i64 x) ∧ w'.cell? ⟨V1.heap.size, 1, none⟩ = some (.string ⟨#[]⟩))
        (first | exact ⟨z2, y0, y1⟩ | exact u1 | exact u2)
        (first
          | (go_at_call 11; refine HC.out.mono ?_; rintro e' w5 ⟨rfl, r5⟩; have u1 : w5.cell? ⟨w.heap.size, 2, none⟩ = some (.int .i64 x) ∧ w5.cell? ⟨V1.heap.size, 0, none⟩ = some (.int .i64 x) ∧ w5.cell? ⟨V1.heap.size, 1, none⟩ = some (.string ⟨#[]⟩) := (by { obtain ⟨l5, T5, g5⟩ := r5; exact ⟨cell_turn (w := V2.drew) z2 g5.t hkx, cell_turn (w := V2.drew) y0 g5.t hky, cell_turn (w := V2.drew) y1 g5.t hky⟩ }); have HD : Hid (Calls Try.prog 23 #[.pointer (some ⟨d, 0, none⟩), .agg #[.int .i64 x, .string ⟨#[]⟩]] w5 fun e w' => e = .returned (.bool (atS S x).isSome) ∧ (w'.cell? ⟨w.heap.size, 2, none⟩ = some (.int .i64 x) ∧ w'.cell? ⟨V1.heap.size, 0, none⟩ = some (.int .i64 x) ∧ w'.cell? ⟨V1.heap.size, 1, none⟩ = some (.string ⟨#[]⟩)) ∧ PiR V2.drew w' lb k q a d (cutS S x) (cutS S x)) := (by { obtain ⟨l5, T5, g5⟩ := r5; refine (T5.cancelD x).mono ?_; rintro e' w6 ⟨rfl, l6, T6, g6⟩; exact ⟨rfl, ⟨cell_turn u1.1 g6.t (by { show ¬ (l5 w.heap.size = k ∨ l5 w.heap.size = q); rw [g5.l w.heap.size (Nat.lt_trans hs1 hs2)]; exact hkx }), cell_turn u1.2.1 g6.t (by { show ¬ (l5 V1.heap.size = k ∨ l5 V1.heap.size = q); rw [g5.l V1.heap.size hs2]; exact hky }), cell_turn u1.2.2 g6.t (by { show ¬ (l5 V1.heap.size = k ∨ l5 V1.heap.size = q); rw [g5.l V1.heap.size hs2]; exact hky })⟩, l6, T6, g5.trans g6⟩ }))
          | (go_at_call 23; refine HD.out.mono ?_; rintro e' w6 ⟨rfl, u2, r6⟩))
      go_wp2_with fail
      go_ret2
      obtain ⟨l6, T6, g6⟩ := r6
      exact ⟨_, rfl, stp_nil T6 (by have := cutS_len S x; omega) ((G2.out.trans (Pg.drew _ _ _ _ 1)).trans g6)⟩
    · by_cases k3 : kd = 3
      · subst k3
        go_enter Try.func34, Try.ntmps34
        go_wp2_with (first
          | (go_at_call 15; refine (atA_I T2.A x (okI hx)).mono ?_; rintro e' wn ⟨rfl, hwn⟩; subst wn)
          | (go_at_call 25; refine (dat_I T2.D x).mono ?_; rintro e' w6 ⟨rfl, b6⟩; have T6 := T2.below b6 8))
        go_ret2
        exact ⟨_, rfl, stp_nil T6 hl1 (G2.out.trans (Pg.below _ _ _ _ b6))⟩
      · by_cases k4 : kd = 4
        · subst k4
          cases S with
          | nil =>
            go_enter Try.func34, Try.ntmps34
            go_wp2_with (first
              | (go_at_call 13; refine (nextN_I T2.A).mono ?_; rintro e' wn ⟨rfl, hwn⟩; subst wn)
              | (go_at_call 27; refine (dnext_I T2.D).mono ?_; unfold nxDI; rintro e' w6 ⟨rfl, b6⟩; have T6 := T2.below b6 8))
            go_ret2
            have b7 : Below w6.heap.size w6 (w6.alloc (.cells #[.int .i64 0, .string ⟨#[]⟩] 51)) := (Below.refl _ w6).alloc (Nat.le_refl _) _
            exact ⟨_, rfl, stp_nil (T6.below b7 8) hl1 ((G2.out.trans (Pg.below _ _ _ _ b6)).trans (Pg.below _ _ _ _ b7))⟩
          | cons m R =>
            go_enter Try.func34, Try.ntmps34
            go_wp2_with (first
              | (go_at_call 13; refine (nextC_I T2.A).mono ?_; rintro e' w5 ⟨rfl, b5⟩; have T5 := T2.below b5 8)
              | (go_at_call 27; refine (dnext_I T5.D).mono ?_; unfold nxDI; rintro e' w6 ⟨rfl, b6⟩; have T6 := T5.below b6 8))
            go_ret2
            have b7 : Below w6.heap.size w6 (w6.alloc (.cells #[.int .i64 m.1, .string ⟨#[]⟩] 51)) := (Below.refl _ w6).alloc (Nat.le_refl _) _
            exact ⟨_, rfl, stp_nil (T6.below b7 8) hl1 (((G2.out.trans (Pg.below _ _ _ _ b5)).trans (Pg.below _ _ _ _ b6)).trans (Pg.below _ _ _ _ b7))⟩
        · by_cases k5 : kd = 5
          · subst k5
            have hd1 := di1 (w := V2) (lab := lb) T2 ⟨fun _ _ => rfl, Turns.refl _ _⟩ (t := t)
            have hS3 : S.length ≤ 4398046511104 := by omega
            go_enter Try.func34, Try.ntmps34
            go_wp2_with (first
              | (go_at_call 10; refine hd1.mono ?_; rintro e' w5 ⟨v5, rfl, q5⟩; have u3 : w5.cell? ⟨w.heap.size, 3, none⟩ = some (.int .i64 t) := (by { obtain ⟨l5, _, _, _, g5⟩ := q5; exact cell_turn z3 g5.t hkx }))
              | (go_at_call 31; refine (di2 hq4 q5).mono ?_; rintro e' w6 ⟨v6, rfl, q6⟩)
              | (go_at_call 55; refine (di3 q6 hS3).mono ?_; rintro e' w7 ⟨v7, rfl, q7⟩)
              | (go_at_call 37; refine (di4 q7 hS3).mono ?_; rintro e' w8 ⟨rfl, q8⟩))
            go_ret2
            obtain ⟨l8, o8, hv8, T8, g8⟩ := q8
            exact ⟨_, rfl, _, _, _, l8, o8, due_le2 S t, hv8, T8, by have := due_len S t; omega, G2.out.trans g8⟩
          · by_cases k6 : kd = 6
            · subst k6
              go_enter Try.func34, Try.ntmps34
              go_wp2_with (first
                | (go_at_call 14; refine (lenA_I T2.A).mono ?_; rintro e' wn ⟨rfl, hwn⟩; subst wn)
                | (go_at_call 33; refine (dlen_I T2.D).mono ?_; rintro e' wn ⟨rfl, hwn⟩; subst wn))
              go_ret2
              exact ⟨_, rfl, stp_nil T2 hl1 G2.out⟩
            · have j1 : (kd == 1) = false := by simpa using k1
              have j2 : (kd == 2) = false := by simpa using k2
              have j3 : (kd == 3) = false := by simpa using k3
              have j4 : (kd == 4) = false := by simpa using k4
              have j5 : (kd == 5) = false := by simpa using k5
              have j6 : (kd == 6) = false := by simpa using k6
              go_enter Try.func34, Try.ntmps34
              go_wp2_with fail

              go_ret2
              exact ⟨_, rfl, stp_nil T2 hl1 G2.out⟩
end Go.Proofs.Ytbopghpfghaoeaa
