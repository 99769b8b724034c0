/- QueueOwns, walked whole. -/
import Derived.Test.YtkfdneohkgmmbabOB
import Derived.Test.YtkfdneohkgmmbabR0
import Derived.Deep.RegionLaw
import Derived.Deep.DrawnRows
namespace Go.Proofs.Ytkfdneohkgmmbab
open Go.RowKit
set_option maxRecDepth 100000
attribute [local go_sem ↓] Go.wp_at_zero Go.wp_at_succ

theorem new_okO (n p : Nat) (w : World) (lab : Nat → Nat) (k : Nat) (hc1 : 1 ≤ n) (hc2 : n ≤ 64) (hp1 : 1 ≤ p) (hp2 : p ≤ 64) :
    Calls Try.prog 7 #[.int .i64 n, .int .i64 p] w fun e w' => ∃ qb, e = .returned (.pointer (some ⟨qb, 0, none⟩)) ∧ Ru KR w' (rl lab w k) k qb p (n - 1) (List.replicate n []) ∧ Below w.heap.size w w' := by
  obtain ⟨m, rfl⟩ : ∃ m, n = m + 1 := ⟨n - 1, by omega⟩
  exact rnew_ok m p w lab k hc2 hp1 hp2
theorem pr_newO {w w1 w2 : World} {lab : Nat → Nat} {kq kr qb rb n p : Nat} (h1 : 1 ≤ n) (q : Qu KI w1 (rl lab w kq) kq qb p 0 (List.replicate n [])) (b2 : Below w1.heap.size w1 w2) (r : Ru KR w2 (rl (rl lab w kq) w1 kr) kr rb p (n - 1) (List.replicate n [])) : Pr w2 (rl (rl lab w kq) w1 kr) kq kr qb rb p (List.replicate n []) :=
  ⟨0, n - 1, q.below b2 kr, r, by rw [List.length_replicate, Nat.sub_add_cancel h1, Nat.mod_self]⟩
theorem Pr.drewO {w : World} {lab : Nat → Nat} {jq jr qb rb P : Nat} {L : List (List Int)} (h : Pr w lab jq jr qb rb P L) (m : Nat) : Pr (w.drewN m) lab jq jr qb rb P L := h.turns (Turns.drewN (fun _ => False) w m) (fun _ _ _ q => q) (fun _ _ => rfl)

set_option maxHeartbeats 8000000 in
theorem owns_any (c p : Int) (ao : Option Addr) (sl sc : Nat) (os : List Oi) (w : World) (hc : -9223372036854775808 ≤ c ∧ c ≤ 9223372036854775807) (hp : -9223372036854775808 ≤ p ∧ p ≤ 9223372036854775807) (hr : sl ≤ 4398046511104) (hL : OLies w ao sl os) (_ : True) :
    Calls Try.prog 4 #[.int .i64 c, .int .i64 p, .slice ao sl sc] w fun e w' => e = .returned (.bool true) ∧ Below w.heap.size w w' := by
  obtain ⟨j0, ji, jz0, jz1, jz2⟩ := info_parts Try.infoSI
  go_enter Try.func4, Try.ntmps4
  go_wp2_with fail
  refine (known_any w).mono ?_
  rintro e w1 ⟨rfl, b1⟩
  go_wp2_with fail
  refine (bound_any c 6 w1 hc (by decide) (by decide)).mono ?_
  rintro e w2 ⟨rfl, hw2⟩
  subst w2
  have hn := bnd_le c 6 (by decide)
  generalize bnd c 6 = n at hn ⊢
  go_wp2_with fail
  refine (bound_any p 8 w1 hp (by decide) (by decide)).mono ?_
  rintro e w2 ⟨rfl, hw2⟩
  subst w2
  have hP := bnd_le p 8 (by decide)
  generalize bnd p 8 = P at hP ⊢
  clear hc hp
  obtain ⟨n1, n2⟩ := hn
  obtain ⟨P1, P2⟩ := hP
  go_wp2_with fail
  refine (new_okI n P w1 (rl (fun _ => 0) w 0) 1 n1 (by omega) P1 (by omega)).mono ?_
  rintro e w2 ⟨qb, rfl, q2, b2⟩
  go_wp2_with fail
  refine (new_okO n P w2 (rl (rl (fun _ => 0) w 0) w1 1) 2 n1 (by omega) P1 (by omega)).mono ?_
  rintro e w3 ⟨rb, rfl, r3, b3⟩
  have B3 := (((Bk.refl w).below b1 0).below b2 1).below b3 2
  have P3 := pr_newO n1 q2 b3 r3
  generalize rl (rl (rl (fun _ => 0) w 0) w1 1) w2 2 = l3 at B3 P3
  have b4 : Below w3.heap.size w3 (w3.alloc (.cells #[.pointer (some ⟨qb, 0, none⟩), .pointer (some ⟨rb, 0, none⟩)] 27)) := (Below.refl _ w3).alloc (Nat.le_refl _) _
  obtain ⟨pb, hpb⟩ : ∃ x, w3.heap.size = x := ⟨_, rfl⟩
  have I4 : OwI w (w3.alloc (.cells #[.pointer (some ⟨qb, 0, none⟩), .pointer (some ⟨rb, 0, none⟩)] 27)) qb rb pb P n (.slice none 0 0) (.slice none 0 0) 0 :=
    ⟨rl l3 w3 7, _, [], [], ⟨P3.below b4 7, B3.below b4 7, by rw [← hpb, heap_alloc_new], rl_new (by omega), World.ownsRow_nil _ _ _ _, fun b hb => (by cases hb), fun e he => (by cases he), by simp, World.ownsRow_nil _ _ _ _, fun b hb => (by cases hb), fun e he => (by cases he)⟩, by simp, rfl, rfl⟩
  clear q2 r3 b1 b2 b3 B3 P3 b4
  have a1 : (1 : Int) ≤ n := by omega
  have a2 : (n : Int) ≤ 6 := by omega
  have a3 : (sl : Int) ≤ 4398046511104 := by omega
  have hn0 : ¬ n = 0 := by omega
  go_wp2_with fail
  try rw [hpb]
  go_loopw [11, 12, 13] (fun lv wv i wr => ∃ j : Nat, j ≤ sl ∧ j ≤ 40 ∧ i = .int .i64 j ∧ OwI w wr qb rb pb P n lv wv (2 * j)) (fun _ _ i _ => 41 - (intOf i).toNat)
  case atStart => exact ⟨0, Nat.zero_le _, Nat.zero_le _, rfl, I4⟩
  case round =>
    clear I4 hpb
    obtain ⟨j, hj1, hj2, rfl, I5⟩ := hrel
    obtain ⟨lab, L, es, us, O5, hl5, he5, hu5⟩ := I5.x
    obtain ⟨wb, hwb⟩ : ∃ wb, wb = wr := ⟨wr, rfl⟩
    subst hwb
    by_cases hgo : j < sl ∧ j < 40
    · obtain ⟨hlt, hl2⟩ := hgo
      have c1 : (j : Int) < sl := by omega
      have c2 : (j : Int) < 40 := by omega
      obtain ⟨g, o, K, W, A, B, rfl, hin, x0, x1, x2, x3⟩ := (hL.below O5.b.b (Nat.le_refl _)).at j hlt
      have z1 : wb.cell? ⟨pb, 0, none⟩ = some (.pointer (some ⟨qb, 0, none⟩)) := by simp [World.cell?, O5.x]
      have z2 : wb.cell? ⟨pb, 1, none⟩ = some (.pointer (some ⟨rb, 0, none⟩)) := by simp [World.cell?, O5.x]
      have PD := O5.p.drewO 1
      have OD := O5.drew 1
      have hgl : g < w.heap.size := by
        obtain ⟨g', o', _, _, _, _, e', _, y0, _⟩ := hL.at j hlt
        cases e'
        exact World.block_lt_of_cell? w _ y0
      have hz := O5.b.z g hgl
      have hgw : g < wb.heap.size := World.block_lt_of_cell? wb _ x0
      obtain ⟨o2a, o2b⟩ := hin.a
      clear hin O5 I5
      go_wp2_with fail
      go_region_law
        (first
          | (go_simp; go_at_call 8; refine (plays_any (kl := 7) PD (by decide) (by decide) (by decide) K W A B).mono ?_; rintro e w4 ⟨lx, rfl, G4⟩; dsimp only)
          | fail)
      all_goals
        obtain ⟨l4, L4, xs, P4, hl4, G4, -, -, -, -⟩ := G4.x
        have O6 := OD.went G4 P4
        rw [hl5] at hl4
        have y2 : w4.cell? ⟨g, o + j * 4 + 2, none⟩ = some (.int .i64 A) := (World.cell?_of_block (w := wb) (a := ⟨g, o + j * 4 + 2, none⟩) (G4.t.block g hgw (by rw [hz]; decide))).trans x2
        have I6 : OwI w w4 qb rb pb P n _ _ (2 * j + 0) := ⟨l4, L4, es, us, O6, hl4, he5, hu5⟩
        clear OD PD G4 P4 O6 z1 z2 x0 x1 x2 x3 he5 hu5 hl4 hl5
        have hyn : 0 ≤ A % (n : Int) := Int.emod_nonneg _ (by omega)
        have hyl : A % (n : Int) < n := Int.emod_lt_of_pos _ (by omega)
        obtain ⟨t1, t2⟩ := tmod_bnd A n n1
        have hye : A.tmod n % (n : Int) = ((A % (n : Int)).toNat : Int) := by
          rw [Int.toNat_of_nonneg hyn]
          have := Int.tmod_add_mul_tdiv A n
          conv => rhs; rw [← this]
          rw [Int.add_mul_emod_self_left]
        obtain ⟨d, hd⟩ : ∃ d, (A % (n : Int)).toNat = d := ⟨_, rfl⟩
        have hdn : d < n := by omega
        rw [hd] at hye
        clear hyn hyl hd
        have d1 : (d : Int) < n := by omega
        go_wp2_with fail
        try simp only [Int.add_emod_right, hye]
        go_loopw [11, 12, 17] (fun lv wv t wr => ∃ k : Nat, k ≤ 2 ∧ t = .int .i64 k ∧ OwI w wr qb rb pb P n lv wv (2 * j + k)) (fun _ _ t _ => 3 - (intOf t).toNat)
        case atStart => exact ⟨0, by omega, rfl, I6⟩
        case round =>
          clear I6 y2
          obtain ⟨k, hk, rfl, I7⟩ := hrel
          by_cases hk2 : k < 2
          · have k1 : (k : Int) < 2 := by omega
            obtain ⟨lab, L, es, us, O7, hl7, he7, hu7⟩ := I7.x
            obtain ⟨nx, la, q7, r7, -⟩ := O7.p.q
            have hdl : d < L.length := by omega
            have hle := q7.le d hdl
            have hP7 := q7.hP
            obtain ⟨X, hX⟩ : ∃ X, L[d] = X := ⟨_, rfl⟩
            have HX : Hid (L[d] = X) := hX
            rw [hX] at hle
            have hul : us.length = es.length := by have := congrArg List.length hu7; simpa using this
            obtain ⟨a7, c7, hlv⟩ := own_slice O7.r
            obtain ⟨e7, f7, hwv⟩ := own_slice O7.s
            obtain ⟨N, hN⟩ : ∃ N, es.length = N := ⟨_, rfl⟩
            have HN : Hid (es.length = N) := hN
            have HU : Hid (us.length = N) := hul.trans hN
            have hNb : N ≤ 82 := by omega
            rw [hN] at hlv
            rw [hul, hN] at hwv
            subst hlv hwv
            have k2 : (X.length : Int) ≤ 64 := by omega
            clear hX hN hul I7
            go_wp2_with fail
            refine (each_ok q7 d hdl).mono ?_
            rw [HX.out]
            rintro e w8 ⟨g, rfl, o8, b8⟩
            have O8 := O7.below b8 5
            have lg8 : rl lab wr 5 g = 5 := rl_new (own_ge o8 rfl)
            have hg8 : w8.heap[g]? = some (il X) := own_block o8
            have hfr8 : ∀ e ∈ es, e.g ≠ g := fun e he q => by
              have h1 := heap_lt (O7.d e he).1
              have h2 := own_ge o8 (b := g) rfl
              omega
            have r8 := r7.below b8 5
            replace o8 := ownsRow_mono o8 (Nat.zero_le _)
            generalize rl lab wr 5 = l8 at O8 lg8 r8
            clear O7 q7 r7 b8
            go_wp2_with fail
            refine (reach_ok r8 d hdl).mono ?_
            rw [HX.out]
            rintro e w9 ⟨a9, c9, rfl, o9, b9⟩
            have O9 := O8.below b9 7
            have hg9 := (b9.block g (heap_lt hg8)).trans hg8
            have lg9 : rl l8 w8 7 g = 5 := (rl_old (heap_lt hg8)).trans lg8
            replace o8 := own_later o8 b9
            replace o9 := ownsRow_mono o9 (Nat.zero_le _)
            generalize rl l8 w8 7 = l9 at O9 lg9
            clear O8 r8 b9 hg8 lg8
            have i9 : Li w9 a9 X.length c9 X := by obtain ⟨a, b, e, hh⟩ := Li.row o9; cases e; exact hh
            go_wp2_with fail
            refine (sameI_any _ _ _ _ _ _ X X w9 (by omega) (Li.own o8) i9).mono ?_
            rintro e wn ⟨rfl, m10, rfl⟩
            have O10 := O9.drew m10
            have hg10 : (w9.drewN m10).heap[g]? = some (il X) := hg9
            have o10 : (w9.drewN m10).ownsRow 0 3 1 (.slice a9 X.length c9) X.length (X.map (Value.int .i64)) := o9
            obtain ⟨w10, hw10⟩ : ∃ x, w9.drewN m10 = x := ⟨_, rfl⟩
            rw [hw10] at O10 hg10 o10 ⊢
            clear hw10 O9 o8 o9 i9 hg9
            have R10 : w10.ownsRow 0 34 1 (.slice a7 N c7) N (es.map Ow.val) := by have := O10.r; rwa [HN.out] at this
            go_wp2_with (at_builtin; refine wpList_append_lies _ rfl _ _ 41 rfl 0 34 j0 (.slice none 0 0) 1 24 Try.underlying41 ji jz0 jz1 jz2 rfl (by decide) _ N _ rfl (World.ownsRow.alloc R10 _) ⟨w10.heap.size, 0, none⟩ 1 1 [.slice (some ⟨g, 0, none⟩) X.length X.length] rfl rfl (cell_one_new _ _ _) (by intro u hu; simp at hu; subst hu; rfl) (by decide) (by unfold maxLen; omega) (by omega) (Nat.zero_le _) _ rfl ?_; intro h11 d11 w11 n11 gr11 at11 lt11)
            have t11 := (Turns.alloc _ w10 _).trans (Turns.grown (F := fun i => (Value.slice a7 N c7).ownBlock = some i) gr11 (fun b hb => hb)) (fun _ _ h => h)
            have O11 := O10.addL g X hg10 lg9 hfr8 (by omega) t11 (by rw [HN.out]; exact n11) (fun b hb => by
              cases hb
              rcases at11 with q | q
              · exact Or.inl q
              · right; simp at q; show w10.heap.size ≤ h11; omega)
            have o11 := own_turns o10 t11 (fun b hb q => own_unlike o10 R10 (by decide) b hb q)
            generalize rl l9 w10 5 = l11 at O11
            clear O10 hg10 lg9 hfr8 t11 n11 gr11 at11 lt11 R10 o10
            have i11 : Li w11 a9 X.length c9 X := by obtain ⟨a, b, e, hh⟩ := Li.row o11; cases e; exact hh
            try go_wp2_with fail
            refine (ints_any a9 X.length c9 X w11 i11 (by omega)).mono ?_
            rintro e w12 ⟨v12, rfl, o12, b12⟩
            have O12 := O11.below b12 6
            have lu12 : ∀ b, v12.ownBlock = some b → rl l11 w11 6 b = 6 := fun b hb => rl_new (own_ge o12 hb)
            replace o12 := ownsRow_mono o12 (Nat.zero_le _)
            generalize rl l11 w11 6 = l12 at O12 lu12
            obtain ⟨a12, c12, rfl⟩ := own_slice o12
            have R12 : w12.ownsRow 0 34 1 (.slice e7 N f7) N (us.map Prod.fst) := by have := O12.s; rwa [HU.out] at this
            clear O11 b12 o11 i11
            go_wp2_with (at_builtin; refine wpList_append_lies _ rfl _ _ 41 rfl 0 34 j0 (.slice none 0 0) 1 24 Try.underlying41 ji jz0 jz1 jz2 rfl (by decide) _ N _ rfl (World.ownsRow.alloc R12 _) ⟨w12.heap.size, 0, none⟩ 1 1 [.slice a12 X.length c12] rfl rfl (cell_one_new _ _ _) (by intro u hu; simp at hu; subst hu; rfl) (by decide) (by unfold maxLen; omega) (by omega) (Nat.zero_le _) _ rfl ?_; intro h13 d13 w13 n13 gr13 at13 lt13)
            have t13 := (Turns.alloc _ w12 _).trans (Turns.grown (F := fun i => (Value.slice e7 N f7).ownBlock = some i) gr13 (fun b hb => hb)) (fun _ _ h => h)
            have O13 := O12.addU (.slice a12 X.length c12) X o12 lu12 t13 (by rw [HU.out]; exact n13) (fun b hb => by
              cases hb
              rcases at13 with q | q
              · exact Or.inl q
              · right; simp at q; show w12.heap.size ≤ h13; omega)
            have I13 : OwI w w13 qb rb pb P n (.slice (some ⟨h11, 0, none⟩) (N + 1) d11) (.slice (some ⟨h13, 0, none⟩) (N + 1) d13) (2 * j + (k + 1)) := ⟨_, L, _, _, O13, hl7, by simp; omega, by simp [hu7]⟩
            clear O12 O13 t13 n13 gr13 at13 lt13 R12 o12 lu12
            go_roundw
            case rel => exact ⟨k + 1, by omega, by go_num, I13⟩
            case measure => simp [intOf]; omega
          · obtain rfl : k = 2 := by omega
            go_wp2_with fail
            go_roundw
            case rel => exact ⟨j + 1, by omega, by omega, by go_num, I7⟩
            case measure => simp [intOf]; omega
    · by_cases hlt : j < sl
      all_goals
        have hul : us.length = es.length := by have := congrArg List.length hu5; simpa using this
        obtain ⟨a7, c7, hlv⟩ := own_slice O5.r
        obtain ⟨e7, f7, hwv⟩ := own_slice O5.s
        obtain ⟨N, hN⟩ : ∃ N, es.length = N := ⟨_, rfl⟩
        have HN : Hid (es.length = N) := hN
        have HU : Hid (us.length = N) := hul.trans hN
        have hNb : N ≤ 82 := by omega
        have nb : (N : Int) ≤ 82 := by omega
        rw [hN] at hlv
        rw [hul, hN] at hwv
        subst hlv hwv
        have R5 : wb.ownsRow 0 34 1 (.slice a7 N c7) N (es.map Ow.val) := by have := O5.r; rwa [HN.out] at this
        have S5 : wb.ownsRow 0 34 1 (.slice e7 N f7) N (us.map Prod.fst) := by have := O5.s; rwa [HU.out] at this
        clear hN hul I5
        go_wp2_with fail
        go_loopw [21] (fun i wr => ∃ k m : Nat, k ≤ N ∧ i = .int .i64 k ∧ wr = wb.drewN m) (fun i _ => N + 1 - (intOf i).toNat)
        case atStart => exact ⟨0, 0, Nat.zero_le _, rfl, rfl⟩
        case round =>
          obtain ⟨k, m, hk, rfl, rfl⟩ := hrel
          by_cases hkN : k < N
          · have k1 : (k : Int) < N := by omega
            obtain ⟨gl, cl, e1, y1⟩ := own_get R5 hkN
            obtain ⟨gw, cw, e2, y2⟩ := own_get S5 hkN
            cases e1
            cases e2
            have hke : k < es.length := by rw [HN.out]; exact hkN
            have hku : k < us.length := by rw [HU.out]; exact hkN
            rw [List.getElem?_map, List.getElem?_eq_getElem hke, Option.map_some] at y1
            rw [List.getElem?_map, List.getElem?_eq_getElem hku, Option.map_some] at y2
            have hLL : us[k].2 = es[k].L := by
              have := congrArg (fun l : List (List Int) => l[k]?) hu5
              simpa [hke, hku] using this
            have d1 := (O5.d es[k] (List.getElem_mem hke)).1
            have d2 := (O5.u us[k] (List.getElem_mem hku)).1
            have hX := (O5.d es[k] (List.getElem_mem hke)).2.2
            rw [hLL] at d2
            generalize us[k] = u at y2 d2
            generalize es[k] = e at y1 d1 d2 hX
            obtain ⟨eg, X, eu⟩ := e
            obtain ⟨uv, ux⟩ := u
            simp only [Ow.val] at y1 y2 d1 d2 hX
            obtain ⟨ua, uc, hua, i2⟩ := Li.row d2
            subst hua
            have i1 : Li wb (some ⟨eg, 0, none⟩) X.length X.length X := by
              refine ⟨rfl, Nat.le_refl _, (fun h => by cases h), fun ad had t u hu => ?_⟩
              obtain rfl := Option.some.inj had
              rw [Addr.add_lit, Nat.zero_add]
              simp only [World.cell?, d1]
              simpa using hu
            have i1d : Li (wb.drewN m).drew (some ⟨eg, 0, none⟩) X.length X.length X := ⟨i1.hlen, i1.hle, i1.hnone, i1.hcells⟩
            have i2d : Li (wb.drewN m).drew ua X.length uc X := ⟨i2.hlen, i2.hle, i2.hnone, i2.hcells⟩
            have k2 : (X.length : Int) ≤ 64 := by omega
            have hXn : X.length ≤ 200000000000000 := by omega
            clear d1 d2 i1 i2 hLL
            go_wp2_with fail
            go_region_law
              (first
                | (go_simp; go_at_call 14; refine (sameI_any _ _ _ _ _ _ X X _ hXn i1d i2d).mono ?_; rintro e w6 ⟨rfl, m6, rfl⟩; dsimp only)
                | fail)
            all_goals
              go_wp2_with fail
              go_roundw
              case rel => exact ⟨k + 1, m + 1 + m6, by omega, by go_num, by first | rfl | simp⟩
              case measure => simp [intOf]; omega
          · obtain rfl : k = N := by omega
            have O6 := O5.drew m
            have R6 := O6.r
            rw [HN.out] at R6
            obtain ⟨w6, hw6⟩ : ∃ x, wb.drewN m = x := ⟨_, rfl⟩
            go_wp2_with fail
            try rw [hw6]
            rw [hw6] at O6 R6
            clear hw6
            refine (apart_any (base := 0) (es := es) (by rw [HN.out]; exact R6) (fun e he => (O6.d e he).1) O6.nd (Nat.zero_le _) (fun _ _ => Nat.zero_le _) (by rw [HN.out]; omega) (fun e he => by have := (O6.d e he).2.2; omega)).mono ?_
            rintro e w7 ⟨rfl, t7⟩
            have t75 : Turns (fun i => lab i = 5) w6 w7 := t7.mono (fun i _ q => by
              obtain ⟨e, he, q⟩ := q
              rw [← q]
              exact (O6.d e he).2.1)
            have P7 := O6.p.turns (lab' := rl lab w6 5) t75 (fun i _ q f => by omega) (fun _ hi => rl_old hi)
            have B7 := O6.b.step t75 (by decide)
            generalize rl lab w6 5 = l7 at P7 B7
            clear O6 R6 O5 t7 t75 R5 S5
            go_wp2_with fail
            go_loopw [24] (fun i wr => ∃ q : Nat, q ≤ n ∧ i = .int .i64 q ∧ ∃ l8, Pr wr l8 1 2 qb rb P L ∧ Bk w l8 wr) (fun i _ => n + 1 - (intOf i).toNat)
            case atStart => exact ⟨0, Nat.zero_le _, rfl, l7, P7, B7⟩
            case round =>
              obtain ⟨q, hq, rfl, l8, P8, B8⟩ := hrel
              clear P7 B7
              by_cases hqn : q < n
              · have q1 : (q : Int) < n := by omega
                obtain ⟨nx, la, q8, r8, e8⟩ := P8.q
                have hql : q < L.length := by omega
                have hle := q8.le q hql
                have hP8 := q8.hP
                clear e8
                go_wp2_with fail
                refine (each_ok q8 q hql).mono ?_
                rintro e w9 ⟨g, rfl, o9, b9⟩
                have r9 := r8.below b9 5
                have P9 := P8.below b9 5
                have B9 := B8.below b9 5
                generalize rl l8 wr 5 = l9 at r9 P9 B9
                clear P8 B8 q8 r8
                go_wp2_with fail
                refine (reach_ok r9 q hql).mono ?_
                rintro e w10 ⟨a10, c10, rfl, o10, b10⟩
                have P10 := P9.below b10 5
                have B10 := B9.below b10 5
                replace o9 := own_later o9 b10
                generalize rl l9 w9 5 = l10 at P10 B10
                clear P9 B9 r9
                go_wp2_with fail
                refine (sameI_any _ _ _ _ _ _ L[q] L[q] w10 (by omega) (Li.own o9) (by obtain ⟨a, b, e, hh⟩ := Li.row o10; cases e; exact hh)).mono ?_
                rintro e wn ⟨rfl, m11, rfl⟩
                have P11 := P10.drewO m11
                have B11 := B10.drew m11
                clear P10 B10 o9 o10 b9 b10
                go_wp2_with fail
                go_roundw
                case rel => exact ⟨q + 1, by omega, by go_num, l10, P11, B11⟩
                case measure => simp [intOf]; omega
              · go_wp2_with fail
                go_ret
                exact ⟨rfl, B8.b⟩
end Go.Proofs.Ytkfdneohkgmmbab
