/- QueueLooks, walked whole. -/
import Derived.Test.YtkfdneohkgmmbaaR1
namespace Go.Proofs.Ytkfdneohkgmmbaa
open Go.RowKit
set_option maxRecDepth 100000

/-- While all is popped: what waits of the client c is the rest of the list l, which lies in the block g. -/
structure LkI (w0 w : World) (qb P n c g : Nat) (l : List Int) (a T i : Nat) : Prop where
  q : ∃ lab nx L, Qu KI w lab 1 qb P nx L ∧ L.length = n ∧ Bk w0 lab w ∧ tot L + i = T ∧ L.getD c [] = l.drop a ∧ w.ownsRow 0 3 1 (.slice (some ⟨g, 0, none⟩) l.length l.length) l.length (l.map (Value.int .i64)) ∧ lab g = 2
  le : a ≤ l.length
theorem getD_set_ne {E : Type} (L : List (List E)) (c d : Nat) (l : List E) (h : d ≠ c) : (L.set d l).getD c [] = L.getD c [] := by
  simp [List.getD, List.getElem?_set_ne h]
theorem getD_set_self {E : Type} (L : List (List E)) (c : Nat) (l : List E) (h : c < L.length) : (L.set c l).getD c [] = l := by
  simp [List.getD, h]
theorem getD_at {E : Type} (L : List (List E)) (c : Nat) (h : c < L.length) : L.getD c [] = L[c] := by simp [List.getD, h]

set_option maxHeartbeats 4000000 in
theorem looks_any (c p : Int) (ao : Option Addr) (sl sc : Nat) (xs : List Int) (y : Int) (w : World) (hc : -9223372036854775808 ≤ c ∧ c ≤ 9223372036854775807) (hp : -9223372036854775808 ≤ p ∧ p ≤ 9223372036854775807) (hr : sl ≤ 17592186043904) (hL : Li w ao sl sc xs) (hs : ∀ x ∈ xs, -9223372036854775808 ≤ x ∧ x ≤ 9223372036854775807) (hy : -9223372036854775808 ≤ y ∧ y ≤ 9223372036854775807) :
    Calls Try.prog 7 #[.int .i64 c, .int .i64 p, .slice ao sl sc, .int .i64 y] w fun e w' => e = .returned (.bool true) ∧ Below w.heap.size w w' := by
  go_enter Try.func7, Try.ntmps7
  go_wp2_with fail
  refine (known_any w).mono ?_
  rintro e w1 ⟨rfl, b1⟩
  go_wp2_with fail
  refine (bound_any c 64 w1 hc (by decide) (by decide)).mono ?_
  rintro e w2 ⟨rfl, hw2⟩
  subst w2
  have hn := bnd_le c 64 (by decide)
  generalize bnd c 64 = n at hn ⊢
  go_wp2_with fail
  refine (bound_any p 64 w1 hp (by decide) (by decide)).mono ?_
  rintro e w2 ⟨rfl, hw2⟩
  subst w2
  have hP := bnd_le p 64 (by decide)
  generalize bnd p 64 = P at hP ⊢
  clear hc hp
  obtain ⟨n1, n2⟩ := hn
  obtain ⟨P1, P2⟩ := hP
  go_wp2_with fail
  refine (new_okI n P w1 (rl (fun _ => 0) w 0) 1 n1 n2 P1 P2).mono ?_
  rintro e w2 ⟨qb, rfl, q2, b2⟩
  have B2 := ((Bk.refl w).below b1 0).below b2 1
  have S2 : St w w2 qb P n := ⟨_, _, _, q2, by simp, B2⟩
  clear q2 B2 b1 b2
  have a1 : (1 : Int) ≤ n := by omega
  have a2 : (n : Int) ≤ 64 := by omega
  have a3 : (sl : Int) ≤ 17592186043904 := by omega
  go_wp2_with fail
  go_loopw [11] (fun i wr => ∃ j : Nat, j ≤ sl ∧ j ≤ 1000 ∧ i = .int .i64 j ∧ St w wr qb P n) (fun i _ => 1001 - (intOf i).toNat)
  case atStart => exact ⟨0, Nat.zero_le _, Nat.zero_le _, rfl, S2⟩
  case round =>
    obtain ⟨j, hj1, hj2, rfl, S3⟩ := hrel
    clear S2
    by_cases hgo : j < sl ∧ j < 1000
    · obtain ⟨hlt, hl2⟩ := hgo
      have c1 : (j : Int) < sl := by omega
      have c2 : (j : Int) < 1000 := by omega
      obtain ⟨lab, nx, L, _, _, B3⟩ := S3.q
      have hLr := hL.below B3.b (Nat.le_refl _)
      obtain ⟨bb, oo, rfl, hcell⟩ := hLr.at (by omega)
      have hcj := hcell j hlt
      have hmem : xs.getD j 0 ∈ xs := by
        have : j < xs.length := by rw [hLr.hlen]; exact hlt
        simp [List.getD, this]
      have hsj := hs _ hmem
      clear hcell hLr B3 hmem
      generalize xs.getD j 0 = s at hcj hsj
      obtain ⟨s1, s2⟩ := hsj
      by_cases hs0 : 0 ≤ s
      · obtain ⟨S, rfl⟩ := Int.eq_ofNat_of_zero_le hs0
        have hm : (S : Int) % (n : Int) = ((S % n : Nat) : Int) := by simp
        have hmn : S % n < n := Nat.mod_lt _ n1
        generalize S % n = d at hm hmn
        go_wp2_with fail
        refine (S3.push d hmn j).mono ?_
        rintro e w4 ⟨v4, rfl, ⟨x4, rfl⟩, S4⟩
        clear S3
        go_wp2_with fail
        go_roundw
        case rel => exact ⟨j + 1, by omega, by omega, by go_num, S4⟩
        case measure => simp [intOf]; omega
      · go_wp2_with fail
        refine S3.pop.mono ?_
        rintro e w4 ⟨v1, v2, v3, rfl, S4⟩
        clear S3
        go_wp2_with fail
        go_roundw
        case rel => exact ⟨j + 1, by omega, by omega, by go_num, S4⟩
        case measure => simp [intOf]; omega
    · obtain ⟨y1, y2⟩ := hy
      obtain ⟨t1, t2⟩ := tmod_bnd y n n1
      have hyn : 0 ≤ y % (n : Int) := Int.emod_nonneg _ (by omega)
      have hyl : y % (n : Int) < n := Int.emod_lt_of_pos _ (by omega)
      have hye : y.tmod n % (n : Int) = ((y % (n : Int)).toNat : Int) := by
        rw [Int.toNat_of_nonneg hyn]
        have := Int.tmod_add_mul_tdiv y n
        conv => rhs; rw [← this]
        rw [Int.add_mul_emod_self_left]
      obtain ⟨d, hd⟩ : ∃ d, (y % (n : Int)).toNat = d := ⟨_, rfl⟩
      have hdn : d < n := by omega
      rw [hd] at hye
      clear hyn hyl hd
      have d1 : (d : Int) < n := by omega
      by_cases hlt : j < sl
      all_goals
        obtain ⟨lab, nx, L, q3, hl3, B3⟩ := S3.q
        have hdl : d < L.length := by omega
        have hld := q3.le d hdl
        obtain ⟨l, hl⟩ : ∃ l, L[d] = l := ⟨_, rfl⟩
        have HL : Hid (L[d] = l) := hl
        rw [hl] at hld
        have e1 : (l.length : Int) ≤ 64 := by omega
        clear hl S3
        go_wp2_with fail
        refine (each_ok q3 d hdl).mono ?_
        rw [HL.out]
        rintro e w4 ⟨g, rfl, o4, b4⟩
        have q4 := q3.below b4 2
        have B4 := B3.below b4 2
        have lg4 : rl lab wr 2 g = 2 := rl_new (own_ge o4 rfl)
        have gl4 := own_lt o4 (b := g) rfl
        replace o4 := ownsRow_mono o4 (Nat.zero_le _)
        generalize rl lab wr 2 = lab4 at q4 B4 lg4
        clear q3 B3 b4
        go_wp2_with fail
        refine (each_ok q4 d hdl).mono ?_
        rw [HL.out]
        rintro e w5 ⟨g5, rfl, o5, b5⟩
        have q5 := q4.below b5 3
        have B5 := B4.below b5 3
        have lg5 : rl lab4 w4 3 g = 2 := (rl_old gl4).trans lg4
        replace o4 := own_later o4 b5
        generalize rl lab4 w4 3 = lab5 at q5 B5 lg5
        clear q4 B4 b5 lg4 gl4
        go_wp2_with fail
        refine (total_ok q5).mono ?_
        rintro e w6 ⟨rfl, hw6⟩
        subst w6
        have hT := tot_le L 64 (fun i h2 => Nat.le_trans (q5.le i h2) q5.hP) L.length (Nat.le_refl _)
        rw [List.take_length] at hT
        have hTn : L.length * 64 ≤ 4096 := by omega
        obtain ⟨T, hTT⟩ : ∃ T, tot L = T := ⟨_, rfl⟩
        rw [hTT] at hT ⊢
        have e2 : (T : Int) ≤ 4096 := by omega
        have l4 := Li.own o4
        have l5 := Li.own o5
        go_wp2_with fail
        refine (sameI_any _ _ _ _ _ _ l l w5 (by omega) l4 l5).mono ?_
        rintro e w6 ⟨rfl, m6, rfl⟩
        have q6 := q5.drew m6
        have B6 := B5.drew m6
        have o6 : (w5.drewN m6).ownsRow 0 3 1 (.slice (some ⟨g, 0, none⟩) l.length l.length) l.length (l.map (Value.int .i64)) := o4
        obtain ⟨w6, hw6⟩ : ∃ x, w5.drewN m6 = x := ⟨_, rfl⟩
        rw [hw6] at q6 B6 o6 ⊢
        have I6 : LkI w w6 qb P n d g l 0 T 0 := ⟨⟨lab5, nx, L, q6, hl3, B6, by omega, by rw [getD_at L d hdl, HL.out]; rfl, o6, lg5⟩, Nat.zero_le _⟩
        clear hw6 q5 B5 o4 o5 l4 l5 hT hTn hTT B6 o6 lg5
        go_wp2_with fail
        refine (len_ok q6 d hdl).mono ?_
        rw [HL.out]
        rintro e wn ⟨rfl, hwn⟩
        subst wn
        go_wp2_with fail
        refine (each_no q6 n (Or.inr (by omega))).mono ?_
        rintro e wn ⟨rfl, hwn⟩
        subst wn
        go_wp2_with fail
        refine (len_no q6 (-1) (Or.inl (by decide))).mono ?_
        rintro e wn ⟨rfl, hwn⟩
        subst wn
        clear q6 HL hdl
        go_wp2_with fail
        go_loopw [16, 17] (fun a i wr => ∃ A k : Nat, k ≤ T ∧ a = .int .i64 A ∧ i = .int .i64 k ∧ LkI w wr qb P n d g l A T k) (fun _ i _ => T + 1 - (intOf i).toNat)
        case atStart => exact ⟨0, 0, Nat.zero_le _, rfl, rfl, I6⟩
        case round =>
          obtain ⟨A, k, hk, rfl, rfl, I7⟩ := hrel
          clear I6
          obtain ⟨⟨lab7, nx7, L7, q7, hl7, B7, t7, g7, o7, lg7⟩, hA⟩ := I7
          by_cases hkT : k < T
          · obtain ⟨i, c', x, l', hc', -, -, -, h4, h5, hp⟩ := pop_some q7 (by omega)
            have k1 : (k : Int) < T := by omega
            have k2 : (A : Int) ≤ l.length := by omega
            go_wp2_with fail
            refine hp.mono ?_
            rintro e w8 ⟨rfl, q8, t8⟩
            have B8 := B7.step t8 (by decide)
            have o8 := own_other o7 t8 (fun b hb => by cases hb; rw [lg7]; decide)
            have lg8 : rl lab7 wr 1 g = 2 := (rl_old (own_lt o7 (b := g) rfl)).trans lg7
            by_cases hcd : c' = d
            · subst hcd
              rw [getD_at L7 c' hc', h4] at g7
              have hAl : A < l.length := by
                rcases Nat.lt_or_ge A l.length with r | r
                · exact r
                · rw [List.drop_eq_nil_of_le r] at g7; cases g7
              rw [List.drop_eq_getElem_cons hAl] at g7
              obtain ⟨rfl, rfl⟩ := List.cons.inj g7
              have I8 : LkI w w8 qb P n c' g l (A + 1) T (k + 1) := ⟨⟨_, _, _, q8, by simpa using hl7, B8, by omega, getD_set_self L7 c' _ hc', o8, lg8⟩, by omega⟩
              have k3 : (A : Int) < l.length := by omega
              have x8 := o8.cellAt A (by omega)
              rw [List.getElem?_map, List.getElem?_eq_getElem hAl, Option.map_some] at x8
              clear q8 B8 o8 lg8 q7 B7 o7 lg7 t7 g7 h4 h5 hp t8
              generalize l[A] = x at x8
              go_wp2_with fail
              go_roundw
              case rel => exact ⟨A + 1, k + 1, by omega, by go_num, by go_num, I8⟩
              case measure => simp [intOf]; omega
            · have I8 : LkI w w8 qb P n d g l A T (k + 1) := ⟨⟨_, _, _, q8, by simpa using hl7, B8, by omega, by rw [getD_set_ne L7 d c' _ hcd]; exact g7, o8, lg8⟩, hA⟩
              have k3 : ¬ (c' : Int) = d := by omega
              clear q8 B8 o8 lg8 q7 B7 o7 lg7 t7 g7 h4 h5 hp t8
              go_wp2_with fail
              go_roundw
              case rel => exact ⟨A, k + 1, by omega, rfl, by go_num, I8⟩
              case measure => simp [intOf]; omega
          · obtain rfl : k = T := by omega
            have hz : tot L7 = 0 := by omega
            have hA2 : A = l.length := by
              have := tot_zero hz d (by omega)
              rw [g7] at this
              have := congrArg List.length this
              simp at this
              omega
            subst hA2
            go_wp2_with fail
            refine (pop_noI q7 (tot_zero hz)).mono ?_
            rintro e w8 ⟨rfl, hw8⟩
            subst w8
            go_wp2_with fail
            refine (total_ok q7).mono ?_
            rw [hz]
            rintro e w8 ⟨rfl, hw8⟩
            subst w8
            go_wp2_with fail
            go_ret
            exact ⟨rfl, B7.b⟩
end Go.Proofs.Ytkfdneohkgmmbaa
