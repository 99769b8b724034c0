/- QueueMany, walked whole. -/
import Derived.Test.YtkfdneohkgmmbaaMM1
namespace Go.Proofs.Ytkfdneohkgmmbaa
open Go.RowKit
set_option maxRecDepth 100000
attribute [local go_sem ↓] Go.wp_at_zero Go.wp_at_succ

set_option maxHeartbeats 8000000 in
theorem many_any8 (c p : Int) (ao : Option Addr) (sl sc : Nat) (os : List Oi) (bo : Option Addr) (tl tc : Nat) (its : List (Int × Int × Int)) (w : World) (hc : -9223372036854775808 ≤ c ∧ c ≤ 9223372036854775807) (hp : -9223372036854775808 ≤ p ∧ p ≤ 9223372036854775807) (hr : sl ≤ 4398046511104) (hL : OLies w ao sl os) (_ : True) (ht : tl ≤ 5864062014805) (hI : ILies w bo tl its) (_ : True) :
    Calls Try.prog 8 #[.int .i64 c, .int .i64 p, .slice ao sl sc, .slice bo tl tc] w fun e w' => e = .returned (.bool true) ∧ Below w.heap.size w w' := by
  obtain ⟨j0, ji, jz0, jz1, jz2⟩ := info_parts Try.infoPair
  go_enter Try.func8, Try.ntmps8
  go_wp2_with fail
  refine (known_any w).mono ?_
  rintro e w1 ⟨rfl, b1⟩
  go_wp2_with fail
  refine (bound_any c 64 w1 hc (by decide) (by decide)).mono ?_
  rintro e w2 ⟨rfl, hw2⟩
  subst w2
  have hn := bnd_le c 64 (by decide)
  generalize bnd c 64 = n at hn ⊢
  go_wp2_with fail
  refine (bound_any p 64 w1 hp (by decide) (by decide)).mono ?_
  rintro e w2 ⟨rfl, hw2⟩
  subst w2
  have hP := bnd_le p 64 (by decide)
  generalize bnd p 64 = P at hP ⊢
  clear hc hp
  obtain ⟨n1, n2⟩ := hn
  obtain ⟨P1, P2⟩ := hP
  have M1 : ∃ lab ps, Mq w w1 lab (.slice none 0 0) ps P n ∧ ps.length = 0 := ⟨rl (fun _ => 0) w 0, [], ⟨(Bk.refl w).below b1 0, World.ownsRow_nil _ _ _ _, fun b hb => (by cases hb), fun i q hi => (by simp at hi)⟩, rfl⟩
  clear b1
  have a1 : (1 : Int) ≤ n := by omega
  have a2 : (n : Int) ≤ 64 := by omega
  have a3 : (sl : Int) ≤ 4398046511104 := by omega
  have a4 : (tl : Int) ≤ 5864062014805 := by omega
  go_wp2_with fail
  go_loopw [10, 11] (fun pv i wr => ∃ j : Nat, j ≤ 20 ∧ i = .int .i64 j ∧ ∃ lab ps, Mq w wr lab pv ps P n ∧ List.length ps = j) (fun _ i _ => 21 - (intOf i).toNat)
  case atStart => exact ⟨0, Nat.zero_le _, rfl, M1⟩
  case round =>
    clear M1
    obtain ⟨j, hj, rfl, lab, ps, M2, hps⟩ := hrel
    obtain ⟨pa, pc, hpv⟩ := own_slice M2.r
    rw [hps] at hpv
    subst hpv
    have HPS : Hid (ps.length = j) := hps
    clear hps
    by_cases hlt : j < 20
    · have d1 : (j : Int) < 20 := by omega
      go_wp2_with fail
      refine (new_okI n P wr lab (10 + 2 * j) n1 n2 P1 P2).mono ?_
      rintro e w3 ⟨qb, rfl, q3, b3⟩
      have M3 := M2.below b3 (10 + 2 * j)
      go_wp2_with fail
      refine (new_okO n P w3 (rl lab wr (10 + 2 * j)) (11 + 2 * j) n1 n2 P1 P2).mono ?_
      rintro e w4 ⟨rb, rfl, r4, b4⟩
      have M4 := M3.below b4 (11 + 2 * j)
      have P4 := pr_newO n1 q3 b4 r4
      generalize rl (rl lab wr (10 + 2 * j)) w3 (11 + 2 * j) = l4 at M4 P4
      clear M2 M3 q3 b3 b4 r4
      have b5 : Below w4.heap.size w4 (w4.alloc (.cells #[.pointer (some ⟨qb, 0, none⟩), .pointer (some ⟨rb, 0, none⟩)] 55)) := (Below.refl _ w4).alloc (Nat.le_refl _) _
      have M5 := M4.below b5 3
      have P5 := P4.below b5 3
      generalize rl l4 w4 3 = l5 at M5 P5
      have R5 := M5.r
      rw [HPS.out] at R5
      clear M4 P4
      go_wp2_with (at_builtin; refine wpList_append_lies _ rfl _ _ 51 rfl 0 55 j0 (.agg #[.pointer none, .pointer none]) 2 16 Try.underlying51 ji jz0 jz1 jz2 rfl (by decide) _ j _ rfl (World.ownsRow.alloc R5 _) ⟨w4.heap.size + 1, 0, none⟩ 1 1 [.pointer (some ⟨qb, 0, none⟩), .pointer (some ⟨rb, 0, none⟩)] rfl rfl (World.news_of_block (by have := heap_alloc_new (w4.alloc (.cells #[.pointer (some ⟨qb, 0, none⟩), .pointer (some ⟨rb, 0, none⟩)] 55)) (.cells #[.pointer (some ⟨qb, 0, none⟩), .pointer (some ⟨rb, 0, none⟩)] 55); simpa using this)) (by intro u hu; simp at hu; rcases hu with rfl | rfl <;> rfl) (by decide) (by unfold maxLen; omega) (by omega) (Nat.zero_le _) _ rfl ?_; intro h6 d6 w6 n6 gr6 at6 lt6)
      have t6 := (Turns.alloc _ _ _).trans (Turns.grown (F := fun i => (Value.slice pa j pc).ownBlock = some i) gr6 (fun b hb => hb)) (fun _ _ h => h)
      have M6 := M5.add (qb := qb) (rb := rb) (by rw [HPS.out]; exact P5) (by simp) t6 (by rw [HPS.out]; exact n6) (fun b hb => by
        cases hb
        rcases at6 with q | q
        · exact Or.inl q
        · right; simp at q; show _ ≤ h6; simp; omega)
      clear M5 P5 b5 t6 n6 gr6 at6 lt6 R5
      go_roundw
      case rel => exact ⟨j + 1, by omega, by go_num, _, _, M6, by simp [HPS.out]⟩
      case measure => simp [intOf]; omega
    · obtain rfl : j = 20 := by omega
      go_wp2_with fail
      refine (new_okM 1 64 wr lab 2 (by decide) (by decide) (by decide) (by decide)).mono ?_
      rintro e w3 ⟨sb, rfl, q3, b3⟩
      have M3 : Ms w w3 (.slice pa 20 pc) ps P n sb (its.take 0) := ⟨_, M2.below b3 2, q3⟩
      clear M2 q3 b3
      go_wp2_with fail
      go_loopw [14, 15] (fun mv i wr => ∃ j m : Nat, j ≤ sl ∧ i = .int .i64 j ∧ mv = .int .i64 m ∧ m ≤ tl ∧ m ≤ 64 ∧ Ms w wr (.slice pa 20 pc) ps P n sb (its.take m)) (fun _ i _ => sl + 1 - (intOf i).toNat)
      case atStart => exact ⟨0, 0, Nat.zero_le _, rfl, rfl, Nat.zero_le _, Nat.zero_le _, M3⟩
      case round =>
        clear M3
        obtain ⟨j, m, hj, rfl, rfl, hm1, hm2, M4⟩ := hrel
        obtain ⟨l4, M4, Q4⟩ := M4.x
        obtain ⟨wb, hwb⟩ : ∃ wb, wb = wr := ⟨wr, rfl⟩
        subst hwb
        have hil : its.length = tl := hI.hlen
        have HIL : Hid (its.length = tl) := hil
        clear hil
        by_cases hlt : j < sl
        · have d1 : (j : Int) < sl := by omega
          obtain ⟨g, o, K, W, A, B, rfl, hin, x0, x1, x2, x3⟩ := (hL.below M4.b.b (Nat.le_refl _)).at j hlt
          have hk : (7 * (j : Int)) % 20 = ((7 * j % 20 : Nat) : Int) := by omega
          have hkl : 7 * j % 20 < 20 := Nat.mod_lt _ (by decide)
          have htm : (7 * (j : Int)).tmod 20 = ((7 * j % 20 : Nat) : Int) := by rw [Int.tmod_eq_emod_of_nonneg (by omega)]; exact hk
          generalize 7 * j % 20 = k at hk hkl htm
          have d2 : (k : Int) < 20 := by omega
          have w7 : IntKind.i64.wrap (7 * (j : Int)) = 7 * (j : Int) := Go.IntWalk.i64_in _ ⟨by omega, by omega⟩
          obtain ⟨gp, qb, rb, rfl, hcap, hpk, z1, z2⟩ := prow_at M4.r HPS.out k hkl
          obtain ⟨L, PP, hLn⟩ := M4.p k _ hpk
          have PD := PP.drewO 1
          have MD := M4.drew 1
          have QD := Q4.drew 1
          have HPK : Hid (ps[k]? = some (qb, rb)) := hpk
          simp only at PD
          clear hpk hin PP M4 Q4
          go_wp2_with fail
          go_region_law
            (first
              | (go_simp; go_at_call 24; refine (plays_any (kl := 3) PD (by omega) (by omega) (by omega) K W A B).mono ?_; rintro e w4 ⟨lx, rfl, G4⟩; dsimp only)
              | fail)
          all_goals
            obtain ⟨l5, L5, xs, P5, hl5, G5, -, -, -, -⟩ := G4.x
            have M5 := MD.step k HPK.out G5 P5 (hl5.trans hLn)
            have Q5 := QD.turns G5.t (fun i _ hl hf => by omega) G5.o
            clear PD MD QD P5 G5 hl5 hLn z1 z2 x0 x1 x2 x3 hk htm w7 hcap d2
            by_cases hgo : m < tl ∧ m < 64
            · obtain ⟨g1, g2⟩ := hgo
              have e1 : (m : Int) < tl := by omega
              have e2 : (m : Int) < 64 := by omega
              have hml : m < its.length := by rw [HIL.out]; exact g1
              obtain ⟨gi, pi, rfl, y0, y1, y2⟩ := (hI.below M5.b.b (Nat.le_refl _)).hcells m _ (List.getElem?_eq_getElem hml)
              have htk : its.take m ++ [its[m]] = its.take (m + 1) := by rw [List.take_succ_eq_append_getElem hml]
              have HTK : Hid (its.take m ++ [its[m]] = its.take (m + 1)) := htk
              have hlk : (its.take m).length < 64 := by rw [List.length_take]; omega
              clear htk
              obtain ⟨it, hit⟩ : ∃ it, its[m] = it := ⟨_, rfl⟩
              rw [hit] at y0 y1 y2 HTK
              obtain ⟨v1, v2, v3⟩ := it
              simp only at y0 y1 y2
              clear hit hml
              go_wp2_with fail
              refine (push_M (its.take m) Q5 v1 v2 v3 hlk).mono ?_
              rw [HTK.out]
              rintro e w6 ⟨rfl, q6, t6⟩
              have M6 := M5.turns t6 (fun i _ h f => by omega) (fun _ hi => rl_old hi) (M5.b.step t6 (by decide))
              have S6 := Ms.mk ⟨_, M6, q6⟩
              clear M5 Q5 M6 q6 t6 y0 y1 y2
              go_wp2_with (go_at_call 14; refine (num_any _ _).mono ?_; rintro e wn ⟨rfl, hwn⟩; subst wn)
              go_roundw
              case rel => exact ⟨j + 1, m + 1, by omega, by go_num, by go_num, by omega, by omega, S6⟩
              case measure => simp [intOf]; omega
            · have S6 := Ms.mk ⟨_, M5, Q5⟩
              clear M5 Q5
              by_cases g1 : m < tl
              · go_wp2_with fail
                go_roundw
                case rel => exact ⟨j + 1, m, by omega, by go_num, rfl, by omega, by omega, S6⟩
                case measure => simp [intOf]; omega
              · go_wp2_with fail
                go_roundw
                case rel => exact ⟨j + 1, m, by omega, by go_num, rfl, by omega, by omega, S6⟩
                case measure => simp [intOf]; omega
        · have S5 := Ms.mk ⟨_, M4, Q4⟩
          clear M4 Q4
          have e2 : (m : Int) ≤ 64 := by omega
          go_wp2_with fail
          go_loopw [19] (fun i wr => ∃ a : Nat, a ≤ 20 ∧ i = .int .i64 a ∧ Ms w wr (.slice pa 20 pc) ps P n sb (its.take m)) (fun i _ => 21 - (intOf i).toNat)
          case atStart => exact ⟨0, Nat.zero_le _, rfl, S5⟩
          case round =>
            clear S5
            obtain ⟨a, ha, rfl, S6⟩ := hrel
            by_cases ha2 : a < 20
            · have f1 : (a : Int) < 20 := by omega
              obtain ⟨wc, hwc⟩ : ∃ wc, wc = wr := ⟨wr, rfl⟩
              subst hwc
              go_wp2_with fail
              go_loopw [20] (fun i wr => ∃ q : Nat, q ≤ n ∧ i = .int .i64 q ∧ Ms w wr (.slice pa 20 pc) ps P n sb (its.take m)) (fun i _ => n + 1 - (intOf i).toNat)
              case atStart => exact ⟨0, Nat.zero_le _, rfl, S6⟩
              case round =>
                clear S6
                obtain ⟨q, hq, rfl, S7⟩ := hrel
                by_cases hqn : q < n
                · have f2 : (q : Int) < n := by omega
                  obtain ⟨l7, M7, Q7⟩ := S7.x
                  obtain ⟨gp, qb, rb, hpa, hcap, hpk, z1, z2⟩ := prow_at M7.r HPS.out a ha2
                  subst hpa
                  obtain ⟨L, PP, hLn⟩ := M7.p a _ hpk
                  simp only at PP
                  obtain ⟨nx, la, q7, r7, -⟩ := PP.q
                  have hql : q < L.length := by omega
                  have hle := q7.le q hql
                  have hP7 := q7.hP
                  clear PP S7 hpk
                  go_wp2_with fail
                  refine (each_ok q7 q hql).mono ?_
                  rintro e w8 ⟨g, rfl, o8, b8⟩
                  have M8 := M7.below b8 3
                  have Q8 := Q7.below b8 3
                  have r8 := r7.below b8 3
                  have z3 : w8.cell? ⟨gp, a * 2 + 1, none⟩ = some (.pointer (some ⟨rb, 0, none⟩)) := (b8.cell (World.block_lt_of_cell? wr _ z2)).trans z2
                  generalize rl l7 wr 3 = l8 at M8 Q8 r8
                  clear M7 Q7 q7 r7
                  go_wp2_with fail
                  refine (reach_ok r8 q hql).mono ?_
                  rintro e w9 ⟨a9, c9, rfl, o9, b9⟩
                  have M9 := M8.below b9 3
                  have Q9 := Q8.below b9 3
                  replace o8 := own_later o8 b9
                  generalize rl l8 w8 3 = l9 at M9 Q9
                  clear M8 Q8 r8
                  go_wp2_with fail
                  refine (sameI_any _ _ _ _ _ _ L[q] L[q] w9 (by omega) (Li.own o8) (by obtain ⟨a, b, e, hh⟩ := Li.row o9; cases e; exact hh)).mono ?_
                  rintro e wn ⟨rfl, m11, rfl⟩
                  have S9 := Ms.mk ⟨_, M9.drew m11, Q9.drew m11⟩
                  clear M9 Q9 o8 o9 b8 b9 z1 z2 z3
                  go_wp2_with fail
                  go_roundw
                  case rel => exact ⟨q + 1, by omega, by go_num, S9⟩
                  case measure => simp [intOf]; omega
                · go_wp2_with fail
                  go_roundw
                  case rel => exact ⟨a + 1, by omega, by go_num, S7⟩
                  case measure => simp [intOf]; omega
            · have S7 : Ms w wr (.slice pa 20 pc) ps P n sb ((its.take m).drop 0) := S6
              clear S6
              go_wp2_with fail
              go_loopw [24] (fun i wr => ∃ b : Nat, b ≤ m ∧ i = .int .i64 b ∧ Ms w wr (.slice pa 20 pc) ps P n sb ((its.take m).drop b)) (fun i _ => m + 1 - (intOf i).toNat)
              case atStart => exact ⟨0, Nat.zero_le _, rfl, S7⟩
              case round =>
                clear S7
                obtain ⟨b, hb, rfl, S8⟩ := hrel
                obtain ⟨l8, M8, Q8⟩ := S8.x
                have hml : (its.take m).length = m := by rw [List.length_take, HIL.out]; omega
                by_cases hbm : b < m
                · have f1 : (b : Int) < m := by omega
                  have f2 : (b : Int) < tl := by omega
                  have hbl : b < its.length := by rw [HIL.out]; omega
                  have hdr : (its.take m).drop b = its[b] :: (its.take m).drop (b + 1) := by
                    rw [List.drop_eq_getElem_cons (by omega)]
                    simp
                  obtain ⟨it, hit⟩ : ∃ it, its[b] = it := ⟨_, rfl⟩
                  have hgi := List.getElem?_eq_getElem hbl
                  rw [hit] at hdr hgi
                  obtain ⟨v1, v2, v3⟩ := it
                  rw [hdr] at Q8
                  clear hdr hit hbl hml S8
                  go_wp2_with fail
                  refine (pop1M v1 v2 v3 _ Q8).mono ?_
                  rintro e w9 ⟨rfl, q9, t9⟩
                  have M9 := M8.turns t9 (fun i _ h f => by omega) (fun _ hi => rl_old hi) (M8.b.step t9 (by decide))
                  generalize rl l8 wr 2 = l9 at M9 q9
                  have b10 : Below w9.heap.size w9 (w9.alloc (IB v1 v2 v3)) := (Below.refl _ w9).alloc (Nat.le_refl _) _
                  have S10 := Ms.mk ⟨_, M9.below b10 3, q9.below b10 3⟩
                  obtain ⟨gi, pi, hbo, y0, y1, y2⟩ := (hI.below (M9.below b10 3).b.b (Nat.le_refl _)).hcells b _ hgi
                  subst hbo
                  have hn1 : (w9.alloc (IB v1 v2 v3)).heap[w9.heap.size]? = some (IB v1 v2 v3) := heap_alloc_new _ _
                  have u0 : (w9.alloc (IB v1 v2 v3)).cell? ⟨w9.heap.size, 0, none⟩ = some (.int .i64 v1) := cell_of_row _ _ 0 _ _ _ hn1
                  have u1 : (w9.alloc (IB v1 v2 v3)).cell? ⟨w9.heap.size, 1, none⟩ = some (.int .i64 v2) := cell_of_row _ _ 1 _ _ _ hn1
                  have u2 : (w9.alloc (IB v1 v2 v3)).cell? ⟨w9.heap.size, 2, none⟩ = some (.int .i64 v3) := cell_of_row _ _ 2 _ _ _ hn1
                  simp only at y0 y1 y2
                  clear M8 Q8 M9 q9 t9 b10 hn1 hgi
                  go_wp2_with fail
                  go_quiet (fail)
                  have S11 := S10.drew nq
                  clear S10 y0 y1 y2 u0 u1 u2
                  go_wp2_with fail
                  go_roundw
                  case rel => exact ⟨b + 1, by omega, by go_num, S11⟩
                  case measure => simp [intOf]; omega
                · obtain rfl : b = m := by omega
                  rw [List.drop_eq_nil_of_le (by omega)] at Q8
                  go_wp2_with fail
                  refine (pop0M Q8).mono ?_
                  rintro e w9 ⟨rfl, b9⟩
                  go_wp2_with fail
                  go_ret
                  exact ⟨rfl, (M8.b.b.trans (b9.mono M8.b.b.size)).alloc (by have := M8.b.b.size; have := b9.size; omega) _⟩
end Go.Proofs.Ytkfdneohkgmmbaa
