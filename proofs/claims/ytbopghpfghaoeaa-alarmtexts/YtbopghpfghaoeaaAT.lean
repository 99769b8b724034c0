/- AlarmTexts, walked. -/
import Derived.Test.YtbopghpfghaoeaaAT0
namespace Go.Proofs.Ytbopghpfghaoeaa
open Go.RowKit Go.Maps
set_option maxRecDepth 100000
attribute [local go_sem ↓] Go.wp_at_zero Go.wp_at_succ
theorem box_three (w : World) (x y z : Value) (t : TypeId) : (w.alloc (.cells #[x, y, z] t)).cell? ⟨w.heap.size, 0, none⟩ = some x ∧ (w.alloc (.cells #[x, y, z] t)).cell? ⟨w.heap.size, 1, none⟩ = some y ∧ (w.alloc (.cells #[x, y, z] t)).cell? ⟨w.heap.size, 2, none⟩ = some z := by
  have := heap_alloc_new w (.cells #[x, y, z] t)
  refine ⟨by simp only [World.cell?]; rw [this]; rfl, by simp only [World.cell?]; rw [this]; rfl, by simp only [World.cell?]; rw [this]; rfl⟩
/-- Behind the alarm's Due; behind the document's; behind texts. -/
def DQ1 (w0 w' : World) (xb : Nat) (t : Int) (a d : Nat) (S : List (ByteArray × Int)) (v : Value) : Prop := ∃ lab, w'.ownsRow 0 9 1 v (dueS S t).length (((dueS S t).map Prod.fst).map Value.string) ∧ w'.cell? ⟨xb, 2, none⟩ = some (.int .i64 t) ∧ lab xb = 3 ∧ (∀ c, v.ownBlock = some c → lab c = 3) ∧ Ps w0 w' lab a d (leftS S t) S
def DQ2 (w0 w' : World) (xb : Nat) (t : Int) (a d : Nat) (S : List (ByteArray × Int)) (v u : Value) : Prop := ∃ lab, w'.ownsRow 0 9 1 v (dueS S t).length (((dueS S t).map Prod.fst).map Value.string) ∧ w'.ownsRow 0 51 2 u (dueS S t).length ((dueS S t).flatMap kcS) ∧ w'.cell? ⟨xb, 2, none⟩ = some (.int .i64 t) ∧ Ps w0 w' lab a d (leftS S t) (leftS S t)
def DQ3 (w0 w' : World) (xb : Nat) (t : Int) (a d : Nat) (S : List (ByteArray × Int)) (v u : Value) : Prop := ∃ lab b, w'.ownsRow 0 9 1 v (dueS S t).length (((dueS S t).map Prod.fst).map Value.string) ∧ w'.ownsRow b 9 1 u (dueS S t).length (((dueS S t).map Prod.fst).map Value.string) ∧ w'.cell? ⟨xb, 2, none⟩ = some (.int .i64 t) ∧ Ps w0 w' lab a d (leftS S t) (leftS S t)
theorem dq1 {w0 V : World} {lb : Nat → Nat} {xb a d : Nat} {t : Int} {S : List (ByteArray × Int)} (T : Ps w0 V lb a d S S) (z : V.cell? ⟨xb, 2, none⟩ = some (.int .i64 t)) (hx : lb xb = 3) :
    Calls Try.prog 29 #[.pointer (some ⟨a, 0, none⟩), .int .i64 t] V fun e w' => ∃ v, e = .returned v ∧ DQ1 w0 w' xb t a d S v := by
  refine (T.dueA t).mono ?_
  rintro e w' ⟨v, rfl, l', o, hv, q, hl, tt⟩
  exact ⟨v, rfl, l', o, cell_turn z tt (by show ¬ lb xb = 1; omega), (hl xb (World.block_lt_of_cell? V _ z)).trans hx, fun c hc => (hv c hc).2, q⟩
theorem dq2 {w0 V : World} {xb a d : Nat} {t : Int} {S : List (ByteArray × Int)} {v : Value} (h : DQ1 w0 V xb t a d S v) :
    Calls Try.prog 31 #[.pointer (some ⟨d, 0, none⟩), .int .i64 t] V fun e w' => ∃ u, e = .returned u ∧ DQ2 w0 w' xb t a d S v u := by
  obtain ⟨lab, o, z, hx, hv, T⟩ := h
  refine (T.dueD t).mono ?_
  rintro e w' ⟨u, rfl, l', o2, q, hl, tt⟩
  exact ⟨u, rfl, l', own_turns o tt (fun c hc => by show ¬ lab c = 2; rw [hv c hc]; decide), o2, cell_turn z tt (by show ¬ lab xb = 2; omega), q⟩
theorem due_le {κ : Type} (S : List (κ × Int)) (t : Int) : (dueS S t).length ≤ S.length := by have := due_len S t; omega
theorem dq3 {w0 V : World} {xb a d : Nat} {t : Int} {S : List (ByteArray × Int)} {v u : Value} (h : DQ2 w0 V xb t a d S v u) (hS : S.length ≤ 4398046511104) :
    Calls Try.prog 30 #[u] V fun e w' => ∃ x, e = .returned x ∧ DQ3 w0 w' xb t a d S v x := by
  obtain ⟨lab, o, o2, z, T⟩ := h
  refine (texts_any o2 (Nat.le_trans (due_le S t) hS)).mono ?_
  rintro e w' ⟨x, rfl, o3, b⟩
  exact ⟨x, rfl, _, _, own_turns o (Below.turns b (fun _ => False)) (fun _ _ q => q), o3, (b.cell (p := ⟨xb, 2, none⟩) (World.block_lt_of_cell? V _ z)).trans z, T.below b 3⟩
theorem dq4 {w0 V : World} {xb a d : Nat} {t : Int} {S : List (ByteArray × Int)} {v u : Value} (h : DQ3 w0 V xb t a d S v u) (hS : S.length ≤ 4398046511104) :
    Calls Try.prog 28 #[v, u] V fun e w' => e = .returned (.bool true) ∧ w'.cell? ⟨xb, 2, none⟩ = some (.int .i64 t) ∧ ∃ lab, Ps w0 w' lab a d (leftS S t) (leftS S t) := by
  obtain ⟨lab, b, o, o2, z, T⟩ := h
  refine (sameT_eq o o2 (Nat.le_trans (due_le S t) hS)).mono ?_
  rintro e w' ⟨rfl, m, rfl⟩
  exact ⟨rfl, z, lab, T.drew m⟩
set_option maxHeartbeats 8000000 in
theorem texts_go (ao : Option Addr) (n c : Nat) (es : List Wd) (w : World) (hn : n ≤ 4398046511000) (h : WLies w ao n es) :
    Calls Try.prog 5 #[.slice ao n c] w fun e w' => e = .returned (.bool true) ∧ Below w.heap.size w w' := by
  have HP : Hid (WLies w ao n es) := h
  have b0 : (n : Int) ≤ 4398046511000 := by omega
  clear h
  go_enter Try.func5, Try.ntmps5
  go_wp2_with fail
  refine (head_any w).mono ?_
  rintro e w1 ⟨rfl, b1⟩
  have B1 := (Bk.refl w).below b1 3
  generalize rl (fun _ => 0) w 3 = l1 at B1
  clear b1
  go_wp2_with fail
  refine (new_S w1 l1 1).mono ?_
  rintro e w2 ⟨a, rfl, q2, b2⟩
  have B2 := B1.below b2 1
  generalize rl l1 w1 1 = l2 at q2 B2
  clear B1 b2
  go_wp2_with fail
  refine (dnew_S w2 l2 2).mono ?_
  rintro e w3 ⟨d, rfl, q3, b3⟩
  have T3 : Ps w w3 (rl l2 w2 2) a d [] [] := ⟨B2.below b3 2, q2.below b3 2, q3⟩
  generalize rl l2 w2 2 = l3 at T3
  clear B2 b3 q2 q3
  go_wp2_with fail
  go_loopw [3, 6] (fun v u wr => ∃ (i : Nat) (S : List (ByteArray × Int)) (lab : Nat → Nat), i ≤ n ∧ v = .bool true ∧ u = .int .i64 i ∧ S.length ≤ i ∧ Ps w wr lab a d S S) (fun _ u _ => n + 1 - (intOf u).toNat)
  case atStart => exact ⟨0, [], l3, Nat.zero_le _, rfl, rfl, Nat.zero_le _, T3⟩
  case round =>
    clear T3
    obtain ⟨i, S, lab, hin, rfl, rfl, hSl, T⟩ := hrel
    by_cases hlt : i < n
    · obtain ⟨g, p, K, s, t, rfl, hs, x0, x1, x2⟩ := HP.out.at i hlt
      have hgl := World.block_lt_of_cell? w _ x0
      have y0 := (T.bk.b.cell (p := ⟨g, p + i * 3, none⟩) hgl).trans x0
      have y1 := (T.bk.b.cell (p := ⟨g, p + i * 3 + 1, none⟩) hgl).trans x1
      have y2 := (T.bk.b.cell (p := ⟨g, p + i * 3 + 2, none⟩) hgl).trans x2
      have a1 : (i : Int) < n := by omega
      have a2 : (0 : Int) ≤ i := by omega
      obtain ⟨W, hWW⟩ : ∃ W, W = wr := ⟨wr, rfl⟩
      subst hWW
      obtain ⟨V, hV⟩ : ∃ V, W.alloc (.cells #[.int .i64 K, .string s, .int .i64 t] 47) = V := ⟨_, rfl⟩
      obtain ⟨z0, z1, z2⟩ := box_three W (.int .i64 K) (.string s) (.int .i64 t) 47
      rw [hV] at z0 z1 z2
      have bV : Below W.heap.size W V := by rw [← hV]; exact (Below.refl _ W).alloc (Nat.le_refl _) _
      have TV := T.below bV 3
      have hlv : rl lab W 3 W.heap.size = 3 := rl_new (Nat.le_refl _)
      generalize rl lab W 3 = lb at TV hlv
      have hxb : W.heap.size < V.heap.size := World.block_lt_of_cell? V _ z0
      have hS2 : S.length < 4398046511104 := by omega
      clear T bV x0 x1 x2
      by_cases k1 : K = 1
      · subst k1
        go_wp2_with (first
          | (go_at_call 20; refine (TV.setA s t hs hS2).mono ?_; rintro e' w5 ⟨rfl, l5, T5, h5, t5⟩; have u1 := cell_turn z1 t5 (by { show ¬ lb W.heap.size = 1; omega }); have u2 := cell_turn z2 t5 (by { show ¬ lb W.heap.size = 1; omega }))
          | (go_at_call 21; refine (T5.setD s t hS2).mono ?_; rintro e' w6 ⟨rfl, l6, T6, h6, t6⟩))
        go_roundw
        case rel => exact ⟨i + 1, setS OS S s t, l6, by omega, rfl, by go_num, by have := setS_len (O := OS) S s t; omega, T6⟩
        case measure => simp [intOf]; omega
      · by_cases k2 : K = 2
        · subst k2
          have HC : Hid (Calls Try.prog 22 #[.pointer (some ⟨a, 0, none⟩), .string s] V.drew fun e w' => e = .returned (.bool (atS S s).isSome) ∧ PsR 1 w V.drew w' lb a d (cutS S s) S) := (TV.drew 1).cancelA s hs
          go_wp2_with fail
          go_region_held3 (fun w' => w'.cell? ⟨W.heap.size, 1, none⟩ = some (.string s))
            (first | exact z1 | exact u1 | exact u2)
            (first
              | (go_at_call 22; refine HC.out.mono ?_; rintro e' w5 ⟨rfl, r5⟩; have u1 : w5.cell? ⟨W.heap.size, 1, none⟩ = some (.string s) := (by { obtain ⟨l5, T5, h5, t5⟩ := r5; exact cell_turn (w := V.drew) z1 t5 (by { show ¬ lb W.heap.size = 1; omega }) }); have HD : Hid (Calls Try.prog 23 #[.pointer (some ⟨d, 0, none⟩), .agg #[.int .i64 0, .string s]] w5 fun e w' => e = .returned (.bool (atS S s).isSome) ∧ ∃ lab, w'.cell? ⟨W.heap.size, 1, none⟩ = some (.string s) ∧ Ps w w' lab a d (cutS S s) (cutS S s)) := (by { obtain ⟨l5, T5, h5, t5⟩ := r5; refine (T5.cancelD s).mono ?_; rintro e' w6 ⟨rfl, l6, T6, h6, t6⟩; exact ⟨rfl, l6, cell_turn u1 t6 (by { show ¬ l5 W.heap.size = 2; rw [h5 W.heap.size hxb, hlv]; decide }), T6⟩ }))
              | (go_at_call 23; refine HD.out.mono ?_; rintro e' w6 ⟨rfl, l6, u2, T6⟩))
          go_wp2_with fail
          go_roundw
          case rel => exact ⟨i + 1, cutS S s, l6, by omega, rfl, by go_num, by have := cutS_len S s; omega, T6⟩
          case measure => simp [intOf]; omega
        · by_cases k3 : K = 3
          · subst k3
            go_wp2_with (first
              | (go_at_call 24; refine (atA_S TV.A s hs).mono ?_; rintro e' wn ⟨rfl, hwn⟩; subst wn)
              | (go_at_call 25; refine (dat_S TV.D s).mono ?_; rintro e' w6 ⟨rfl, b6⟩; have T6 := TV.below b6 3))
            go_roundw
            case rel => exact ⟨i + 1, S, _, by omega, rfl, by go_num, by omega, T6⟩
            case measure => simp [intOf]; omega
          · by_cases k4 : K = 4
            · subst k4
              cases S with
              | nil =>
                go_wp2_with (first
                  | (go_at_call 26; refine (nextN_S TV.A).mono ?_; rintro e' wn ⟨rfl, hwn⟩; subst wn)
                  | (go_at_call 27; refine (dnext_S TV.D).mono ?_; unfold nxDS; rintro e' w6 ⟨rfl, b6⟩; have T6 := TV.below b6 3))
                have b7 : Below w6.heap.size w6 (w6.alloc (.cells #[.int .i64 0, .string ⟨#[]⟩] 51)) := (Below.refl _ w6).alloc (Nat.le_refl _) _
                have T7 := T6.below b7 3
                go_roundw
                case rel => exact ⟨i + 1, [], _, by omega, rfl, by go_num, by simp, T7⟩
                case measure => simp [intOf]; omega
              | cons m R =>
                go_wp2_with (first
                  | (go_at_call 26; refine (nextC_S TV.A).mono ?_; rintro e' w5 ⟨rfl, b5⟩; have T5 := TV.below b5 3)
                  | (go_at_call 27; refine (dnext_S T5.D).mono ?_; unfold nxDS; rintro e' w6 ⟨rfl, b6⟩; have T6 := T5.below b6 3))
                have b7 : Below w6.heap.size w6 (w6.alloc (.cells #[.int .i64 0, .string m.1] 51)) := (Below.refl _ w6).alloc (Nat.le_refl _) _
                have T7 := T6.below b7 3
                go_roundw
                case rel => exact ⟨i + 1, m :: R, _, by omega, rfl, by go_num, by omega, T7⟩
                case measure => simp [intOf]; omega
            · by_cases k5 : K = 5
              · subst k5
                have HC : Hid (Calls Try.prog 29 #[.pointer (some ⟨a, 0, none⟩), .int .i64 t] V.drew fun e w' => ∃ v, e = .returned v ∧ DQ1 w w' W.heap.size t a d S v) := dq1 (TV.drew 1) z2 hlv
                have hS3 : S.length ≤ 4398046511104 := by omega
                go_wp2_with fail
                go_region_held3 (fun w' => w'.cell? ⟨W.heap.size, 2, none⟩ = some (.int .i64 t))
                  (first | exact z2 | exact r1 | exact r2 | exact r3 | exact r4)
                  (first
                    | (go_at_call 29; refine HC.out.mono ?_; rintro e' w5 ⟨v5, rfl, q5⟩; have r1 : w5.cell? ⟨W.heap.size, 2, none⟩ = some (.int .i64 t) := (by { obtain ⟨_, _, r, _⟩ := q5; exact r }))
                    | (go_at_call 31; refine (dq2 q5).mono ?_; rintro e' w6 ⟨v6, rfl, q6⟩; have r2 : w6.cell? ⟨W.heap.size, 2, none⟩ = some (.int .i64 t) := (by { obtain ⟨_, _, _, r, _⟩ := q6; exact r }))
                    | (go_at_call 30; refine (dq3 q6 hS3).mono ?_; rintro e' w7 ⟨v7, rfl, q7⟩; have r3 : w7.cell? ⟨W.heap.size, 2, none⟩ = some (.int .i64 t) := (by { obtain ⟨_, _, _, _, r, _⟩ := q7; exact r }))
                    | (go_at_call 28; refine (dq4 q7 hS3).mono ?_; rintro e' w8 ⟨rfl, r4, l8, T8⟩))
                go_wp2_with fail
                go_roundw
                case rel => exact ⟨i + 1, leftS S t, l8, by omega, rfl, by go_num, by have := due_len S t; omega, T8⟩
                case measure => simp [intOf]; omega
              · by_cases k6 : K = 6
                · subst k6
                  go_wp2_with (first
                    | (go_at_call 32; refine (lenA_S TV.A).mono ?_; rintro e' wn ⟨rfl, hwn⟩; subst wn)
                    | (go_at_call 33; refine (dlen_S TV.D).mono ?_; rintro e' wn ⟨rfl, hwn⟩; subst wn))
                  go_roundw
                  case rel => exact ⟨i + 1, S, _, by omega, rfl, by go_num, by omega, TV⟩
                  case measure => simp [intOf]; omega
                · have j1 : (K == 1) = false := by simpa using k1
                  have j2 : (K == 2) = false := by simpa using k2
                  have j3 : (K == 3) = false := by simpa using k3
                  have j4 : (K == 4) = false := by simpa using k4
                  have j5 : (K == 5) = false := by simpa using k5
                  have j6 : (K == 6) = false := by simpa using k6
                  go_wp2_with fail
                  go_roundw
                  case rel => exact ⟨i + 1, S, _, by omega, rfl, by go_num, by omega, TV⟩
                  case measure => simp [intOf]; omega
    · go_wp2_with fail
      go_ret
      exact ⟨rfl, T.bk.b⟩
end Go.Proofs.Ytbopghpfghaoeaa
