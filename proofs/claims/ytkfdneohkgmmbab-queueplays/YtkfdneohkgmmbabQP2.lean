/- QueuePlays, walked whole. (Written by mkQP2.py.) -/
import Derived.Test.YtkfdneohkgmmbabQP1
import Derived.Deep.RegionLaw
import Derived.Deep.DrawnRows
namespace Go.Proofs.Ytkfdneohkgmmbab
open Go.RowKit
set_option maxRecDepth 100000
attribute [local go_sem ↓] Go.wp_at_zero Go.wp_at_succ

theorem new_okP (n p : Nat) (w : World) (lab : Nat → Nat) (k : Nat) (hc2 : n + 1 ≤ 64) (hp1 : 1 ≤ p) (hp2 : p ≤ 64) :
    Calls Try.prog 6 #[.int .i64 ((n : Int) + 1), .int .i64 p] w fun e w' => ∃ qb, e = .returned (.pointer (some ⟨qb, 0, none⟩)) ∧ Qu KI w' (rl lab w k) k qb p 0 (List.replicate (n + 1) []) ∧ Below w.heap.size w w' := new_okI (n + 1) p w lab k (by omega) hc2 hp1 hp2
theorem Pr.drew {w : World} {lab : Nat → Nat} {jq jr qb rb P : Nat} {L : List (List Int)} (h : Pr w lab jq jr qb rb P L) (m : Nat) : Pr (w.drewN m) lab jq jr qb rb P L := h.turns (Turns.drewN (fun _ => False) w m) (fun _ _ _ q => q) (fun _ _ => rfl)
theorem many_two (A B : Int) (h : ¬ (manyB A = false ∨ manyB B = false)) : ∃ n p : Nat, A = (n : Int) + 1 ∧ B = (p : Int) ∧ n + 1 ≤ 64 ∧ 1 ≤ p ∧ p ≤ 64 := by
  have h1 : manyB A = true := by cases e : manyB A with | true => rfl | false => exact absurd (Or.inl e) h
  have h2 : manyB B = true := by cases e : manyB B with | true => rfl | false => exact absurd (Or.inr e) h
  simp [manyB] at h1 h2
  exact ⟨(A - 1).toNat, B.toNat, by omega, by omega, by omega, by omega, by omega⟩

set_option maxHeartbeats 8000000 in
theorem qplays_any (ao : Option Addr) (sl sc : Nat) (os : List Oi) (w : World) (hr : sl ≤ 4398046511104) (hL : OLies w ao sl os) (_ : True) :
    Calls Try.prog 3 #[.slice ao sl sc] w fun e w' => e = .returned (.bool true) ∧ Below w.heap.size w w' := by
  go_enter Try.func3, Try.ntmps3
  go_wp2_with fail
  refine (known_any w).mono ?_
  rintro e w1 ⟨rfl, b1⟩
  have B1 := (Bk.refl w).below b1 0
  go_wp2_with fail
  obtain ⟨pA, hpA⟩ : ∃ x, w1.heap.size = x := ⟨_, rfl⟩
  have Q1 : Qp w (w1.alloc (.cells #[.pointer none, .pointer none, .pointer none, .pointer none] T2)) pA (.slice none 0 0) [] := by
    have b2 : Below w1.heap.size w1 (w1.alloc (.cells #[.pointer none, .pointer none, .pointer none, .pointer none] T2)) := (Below.refl _ w1).alloc (Nat.le_refl _) _
    refine ⟨rl (rl (fun _ => 0) w 0) w1 5, none, none, B1.below b2 5, ?_, rl_new (by omega), (fun _ hq => by cases hq), (fun _ hq => by cases hq), ⟨World.ownsRow_nil _ _ _ _, fun b hb => (by cases hb), fun e he => (by cases he)⟩⟩
    rw [← hpA, heap_alloc_new]
    rfl
  rw [hpA]
  clear B1 b1
  have a3 : (sl : Int) ≤ 4398046511104 := by omega
  go_loopw [3, 5, 6] (fun okv kv i wr => ∃ (j : Nat) (es : List Ke), j ≤ sl ∧ okv = .bool true ∧ i = .int .i64 j ∧ es.length ≤ 602 ∧ Qp w wr pA kv es) (fun _ _ i _ => sl + 1 - (intOf i).toNat)
  case atStart => exact ⟨0, [], Nat.zero_le _, rfl, rfl, by simp, Q1⟩
  case round =>
    obtain ⟨j, es, hj, rfl, rfl, hes, Q2⟩ := hrel
    clear Q1
    obtain ⟨lab, s0, s1, Q2⟩ := Q2.x
    by_cases hlt : j < sl
    · have d1 : (j : Int) < sl := by omega
      obtain ⟨g, p, K, W, A, B, rfl, hin, x0, x1, x2, x3⟩ := (hL.below Q2.b.b (Nat.le_refl _)).at j hlt
      obtain ⟨ka, kc, hkv⟩ := own_slice Q2.k.r
      obtain ⟨N, hN⟩ : ∃ N, es.length = N := ⟨_, rfl⟩
      have HN : Hid (es.length = N) := hN
      rw [hN] at hkv hes
      subst hkv
      have d2 : (N : Int) ≤ 602 := by omega
      clear hN
      obtain ⟨wb, hwb⟩ : ∃ wb, wb = wr := ⟨wr, rfl⟩
      subst hwb
      have bO : Below wb.heap.size wb (wb.alloc (.cells #[.int .i64 K, .int .i64 W, .int .i64 A, .int .i64 B] 31)) := (Below.refl _ wb).alloc (Nat.le_refl _) _
      have Q3 := Q2.below bO 5
      have hO : (wb.alloc (.cells #[.int .i64 K, .int .i64 W, .int .i64 A, .int .i64 B] 31)).heap[wb.heap.size]? = some (.cells #[.int .i64 K, .int .i64 W, .int .i64 A, .int .i64 B] 31) := heap_alloc_new _ _
      have lO : rl lab wb 5 wb.heap.size = 5 := rl_new (Nat.le_refl _)
      obtain ⟨oB, hoB⟩ : ∃ x, wb.heap.size = x := ⟨_, rfl⟩
      obtain ⟨l3, hl3⟩ : ∃ x, rl lab wb 5 = x := ⟨_, rfl⟩
      rw [hl3] at Q3 lO
      rw [hoB] at hO lO
      clear Q2 hl3 bO
      obtain ⟨o1, o2, o3⟩ : (-9223372036854775808 ≤ W ∧ W ≤ 9223372036854775807) ∧ (-9223372036854775808 ≤ A ∧ A ≤ 9223372036854775807) ∧ (-9223372036854775808 ≤ B ∧ B ≤ 9223372036854775807) := ⟨hin.w, hin.a, hin.b⟩
      clear hin
      rcases and_one W with hk | hk
      · by_cases hK : K = 1
        · subst hK
          by_cases hm : manyB A = false ∨ manyB B = false
          · go_wp2_with fail
            try rw [hoB]
            obtain ⟨w3, hw3⟩ : ∃ x, wb.alloc (.cells #[.int .i64 1, .int .i64 W, .int .i64 A, .int .i64 B] 31) = x := ⟨_, rfl⟩
            rw [hw3] at Q3 hO ⊢
            clear hw3
            have y2 : w3.cell? ⟨oB, 2, none⟩ = some (.int .i64 A) := by simp [World.cell?, hO]
            have y3 : w3.cell? ⟨oB, 3, none⟩ = some (.int .i64 B) := by simp [World.cell?, hO]
            refine (new_noI A B w3 hm).mono ?_
            rintro e wn ⟨rfl, hwn⟩
            subst wn
            go_wp2_with fail
            refine (rnew_no A B w3 hm).mono ?_
            rintro e wn ⟨rfl, hwn⟩
            subst wn
            have QX := Q3
            clear Q3 y2 y3 hO hm
            go_wp2_with fail
            refine (holds_any _ _ QX.k.r (fun e he => (QX.k.e e he).1) (fun e he => (QX.k.e e he).2.2) (by rw [HN.out]; omega)).mono ?_
            rintro e wn ⟨rfl, mm, rfl⟩
            have QY := QX.drew mm
            clear QX
            go_wp2_with fail
            go_roundw
            case rel => exact ⟨j + 1, _, by omega, rfl, by go_num, by rw [HN.out]; exact hes, ⟨_, _, _, QY⟩⟩
            case measure => simp [intOf]; omega
          · obtain ⟨n, p', rfl, rfl, m1, m2, m3⟩ := many_two A B hm
            clear hm
            go_wp2_with fail
            try rw [hoB]
            obtain ⟨w3, hw3⟩ : ∃ x, wb.alloc (.cells #[.int .i64 1, .int .i64 W, .int .i64 ((n : Int) + 1), .int .i64 p'] 31) = x := ⟨_, rfl⟩
            rw [hw3] at Q3 hO ⊢
            clear hw3
            refine (new_okP n p' w3 l3 1 m1 m2 m3).mono ?_
            rintro e w4 ⟨qb, rfl, q4, b4⟩
            have Q4 := Q3.below b4 1
            have hO4 := (b4.block oB (heap_lt hO)).trans hO
            have y2 : w4.cell? ⟨oB, 2, none⟩ = some (.int .i64 ((n : Int) + 1)) := by simp [World.cell?, hO4]
            have y3 : w4.cell? ⟨oB, 3, none⟩ = some (.int .i64 p') := by simp [World.cell?, hO4]
            go_wp2_with fail
            refine (rnew_ok n p' w4 (rl l3 w3 1) 2 m1 m2 m3).mono ?_
            rintro e w5 ⟨rb, rfl, r5, b5⟩
            have Q5 := Q4.below b5 2
            have P5 := pr_new (by decide) q4 b5 r5
            generalize rl (rl l3 w3 1) w4 2 = l5 at Q5 P5
            have hx5 := Q5.x
            have z1 : w5.cell? ⟨pA, 0, none⟩ = some (sq s0) := by simp [World.cell?, hx5]
            have z2 : w5.cell? ⟨pA, 1, none⟩ = some (sr s0) := by simp [World.cell?, hx5]
            have f1 : ∀ o, w5.frozen? ⟨pA, o, none⟩ = false := fun o => by simp [World.frozen?, hx5]
            have f1a := f1 0
            have f1b := f1 1
            have QX := Q5.set0 P5 (turns_two w5 pA 0 1 (.pointer (some ⟨qb, 0, none⟩)) (.pointer (some ⟨rb, 0, none⟩))) (box_two hx5)
            clear Q3 Q4 q4 b4 b5 r5 y2 y3 hO hO4 Q5 P5 hx5 f1
            go_wp2_with fail
            refine (holds_any _ _ QX.k.r (fun e he => (QX.k.e e he).1) (fun e he => (QX.k.e e he).2.2) (by rw [HN.out]; omega)).mono ?_
            rintro e wn ⟨rfl, mm, rfl⟩
            have QY := QX.drew mm
            clear QX
            go_wp2_with fail
            go_roundw
            case rel => exact ⟨j + 1, _, by omega, rfl, by go_num, by rw [HN.out]; exact hes, ⟨_, _, _, QY⟩⟩
            case measure => simp [intOf]; omega
        · have hxo := Q3.x
          have y0 : (wb.alloc (.cells #[.int .i64 K, .int .i64 W, .int .i64 A, .int .i64 B] 31)).cell? ⟨oB, 0, none⟩ = some (.int .i64 K) := by simp [World.cell?, hO]
          have hKb : (K == 1) = false := by simpa using hK
          cases hs0 : s0 with
          | none =>
            subst hs0
            have z2 : (wb.alloc (.cells #[.int .i64 K, .int .i64 W, .int .i64 A, .int .i64 B] 31)).cell? ⟨pA, 1, none⟩ = some (.pointer none) := by simp [World.cell?, hxo, sr]
            have QX := Q3
            clear Q3 hxo
            go_wp2_with fail
            refine (holds_any _ _ QX.k.r (fun e he => (QX.k.e e he).1) (fun e he => (QX.k.e e he).2.2) (by rw [HN.out]; omega)).mono ?_
            rintro e wn ⟨rfl, mm, rfl⟩
            have QY := QX.drew mm
            clear QX
            go_wp2_with fail
            go_roundw
            case rel => exact ⟨j + 1, _, by omega, rfl, by go_num, by rw [HN.out]; exact hes, ⟨_, _, _, QY⟩⟩
            case measure => simp [intOf]; omega
          | some pp =>
            obtain ⟨qb, rb⟩ := pp
            subst hs0
            have z1 : (wb.alloc (.cells #[.int .i64 K, .int .i64 W, .int .i64 A, .int .i64 B] 31)).cell? ⟨pA, 0, none⟩ = some (.pointer (some ⟨qb, 0, none⟩)) := by simp [World.cell?, hxo, sq]
            have z2 : (wb.alloc (.cells #[.int .i64 K, .int .i64 W, .int .i64 A, .int .i64 B] 31)).cell? ⟨pA, 1, none⟩ = some (.pointer (some ⟨rb, 0, none⟩)) := by simp [World.cell?, hxo, sr]
            have y1 : (wb.alloc (.cells #[.int .i64 K, .int .i64 W, .int .i64 A, .int .i64 B] 31)).cell? ⟨oB, 1, none⟩ = some (.int .i64 W) := by simp [World.cell?, hO]
            have y2 : (wb.alloc (.cells #[.int .i64 K, .int .i64 W, .int .i64 A, .int .i64 B] 31)).cell? ⟨oB, 2, none⟩ = some (.int .i64 A) := by simp [World.cell?, hO]
            have y3 : (wb.alloc (.cells #[.int .i64 K, .int .i64 W, .int .i64 A, .int .i64 B] 31)).cell? ⟨oB, 3, none⟩ = some (.int .i64 B) := by simp [World.cell?, hO]
            obtain ⟨P, L, PP⟩ := Q3.p0 _ rfl
            go_wp2_with fail
            obtain ⟨w3, hw3⟩ : ∃ x, wb.alloc (.cells #[.int .i64 K, .int .i64 W, .int .i64 A, .int .i64 B] 31) = x := ⟨_, rfl⟩
            rw [hw3] at Q3 hO hxo z1 z2 y0 y1 y2 y3 PP ⊢
            have PD := PP.drew 1
            have QD := Q3.drew 1
            clear hw3 hxo PP x0 x1 x2 x3 hoB
            go_region_law
              (first
                | (go_simp; go_at_call 8; refine (plays_any (kl := 5) PD (by decide) (by decide) (by decide) K W A B).mono ?_; rintro e w4 ⟨lv, rfl, G4⟩; dsimp only)
                | fail)
            all_goals
              obtain ⟨l4, L4, xs, P4, -, G4, o4, lb4, hx4, ao4, F4⟩ := G4.x
              have Q4 := QD.step0 G4 P4
              have hO4 : w4.heap[oB]? = some (.cells #[.int .i64 K, .int .i64 W, .int .i64 A, .int .i64 B] 31) := (G4.t.block oB (heap_lt hO) (by rw [lO]; decide)).trans hO
              have u0 : w4.cell? ⟨oB, 0, none⟩ = some (.int .i64 K) := by simp [World.cell?, hO4]
              have hfr : ∀ e ∈ es, ∀ b, e.v.ownBlock = some b → lv.ownBlock ≠ some b := fun e he b hb q => by
                have q1 := own_lt (Q3.k.e e he).1 hb
                have q2 := own_ge o4 q
                have q3 : (w3.drewN 1).heap.size = w3.heap.size := rfl
                omega
              have o5 := ownsRow_mono o4 (Nat.zero_le _)
              have hlv := F4.v
              subst hlv
              clear Q3 PD QD G4 P4 z1 z2 y0 y1 y2 y3 hO hO4 o4
              by_cases h5 : K = 5
              · have h5b : (K == 5) = true := by simpa using h5
                by_cases hN6 : N < 600
                · have d3 : (N : Int) < 600 := by omega
                  go_wp2_with fail
                  refine (keep_any _ _ es xs.length ao4 xs (1000000 + (j : Int)) Q4.k.r o5 F4 hx4 (by rw [HN.out]; omega)).mono ?_
                  rintro e w6 ⟨kv6, g1, g2, rfl, R6⟩
                  have QX := Q4.keep o5 lb4 hfr hx4 R6
                  clear Q4 R6 o5 lb4 hfr F4 u0
                  go_wp2_with fail
                  refine (holds_any _ _ QX.k.r (fun e he => (QX.k.e e he).1) (fun e he => (QX.k.e e he).2.2) (by simp [HN.out]; omega)).mono ?_
                  rintro e wn ⟨rfl, mm, rfl⟩
                  have QY := QX.drew mm
                  clear QX
                  go_wp2_with fail
                  go_roundw
                  case rel => exact ⟨j + 1, _, by omega, rfl, by go_num, by simp [HN.out]; omega, ⟨_, _, _, QY⟩⟩
                  case measure => simp [intOf]; omega
                · have d3 : ¬ (N : Int) < 600 := by omega
                  have QX := Q4
                  clear Q4 o5 lb4 hfr F4
                  go_wp2_with fail
                  refine (holds_any _ _ QX.k.r (fun e he => (QX.k.e e he).1) (fun e he => (QX.k.e e he).2.2) (by rw [HN.out]; omega)).mono ?_
                  rintro e wn ⟨rfl, mm, rfl⟩
                  have QY := QX.drew mm
                  clear QX
                  go_wp2_with fail
                  go_roundw
                  case rel => exact ⟨j + 1, _, by omega, rfl, by go_num, by rw [HN.out]; exact hes, ⟨_, _, _, QY⟩⟩
                  case measure => simp [intOf]; omega
              · have h5b : (K == 5) = false := by simpa using h5
                have QX := Q4
                clear Q4 o5 lb4 hfr F4
                go_wp2_with fail
                refine (holds_any _ _ QX.k.r (fun e he => (QX.k.e e he).1) (fun e he => (QX.k.e e he).2.2) (by rw [HN.out]; omega)).mono ?_
                rintro e wn ⟨rfl, mm, rfl⟩
                have QY := QX.drew mm
                clear QX
                go_wp2_with fail
                go_roundw
                case rel => exact ⟨j + 1, _, by omega, rfl, by go_num, by rw [HN.out]; exact hes, ⟨_, _, _, QY⟩⟩
                case measure => simp [intOf]; omega
      · by_cases hK : K = 1
        · subst hK
          by_cases hm : manyB A = false ∨ manyB B = false
          · go_wp2_with fail
            try rw [hoB]
            obtain ⟨w3, hw3⟩ : ∃ x, wb.alloc (.cells #[.int .i64 1, .int .i64 W, .int .i64 A, .int .i64 B] 31) = x := ⟨_, rfl⟩
            rw [hw3] at Q3 hO ⊢
            clear hw3
            have y2 : w3.cell? ⟨oB, 2, none⟩ = some (.int .i64 A) := by simp [World.cell?, hO]
            have y3 : w3.cell? ⟨oB, 3, none⟩ = some (.int .i64 B) := by simp [World.cell?, hO]
            refine (new_noI A B w3 hm).mono ?_
            rintro e wn ⟨rfl, hwn⟩
            subst wn
            go_wp2_with fail
            refine (rnew_no A B w3 hm).mono ?_
            rintro e wn ⟨rfl, hwn⟩
            subst wn
            have QX := Q3
            clear Q3 y2 y3 hO hm
            go_wp2_with fail
            refine (holds_any _ _ QX.k.r (fun e he => (QX.k.e e he).1) (fun e he => (QX.k.e e he).2.2) (by rw [HN.out]; omega)).mono ?_
            rintro e wn ⟨rfl, mm, rfl⟩
            have QY := QX.drew mm
            clear QX
            go_wp2_with fail
            go_roundw
            case rel => exact ⟨j + 1, _, by omega, rfl, by go_num, by rw [HN.out]; exact hes, ⟨_, _, _, QY⟩⟩
            case measure => simp [intOf]; omega
          · obtain ⟨n, p', rfl, rfl, m1, m2, m3⟩ := many_two A B hm
            clear hm
            go_wp2_with fail
            try rw [hoB]
            obtain ⟨w3, hw3⟩ : ∃ x, wb.alloc (.cells #[.int .i64 1, .int .i64 W, .int .i64 ((n : Int) + 1), .int .i64 p'] 31) = x := ⟨_, rfl⟩
            rw [hw3] at Q3 hO ⊢
            clear hw3
            refine (new_okP n p' w3 l3 3 m1 m2 m3).mono ?_
            rintro e w4 ⟨qb, rfl, q4, b4⟩
            have Q4 := Q3.below b4 3
            have hO4 := (b4.block oB (heap_lt hO)).trans hO
            have y2 : w4.cell? ⟨oB, 2, none⟩ = some (.int .i64 ((n : Int) + 1)) := by simp [World.cell?, hO4]
            have y3 : w4.cell? ⟨oB, 3, none⟩ = some (.int .i64 p') := by simp [World.cell?, hO4]
            go_wp2_with fail
            refine (rnew_ok n p' w4 (rl l3 w3 3) 4 m1 m2 m3).mono ?_
            rintro e w5 ⟨rb, rfl, r5, b5⟩
            have Q5 := Q4.below b5 4
            have P5 := pr_new (by decide) q4 b5 r5
            generalize rl (rl l3 w3 3) w4 4 = l5 at Q5 P5
            have hx5 := Q5.x
            have z1 : w5.cell? ⟨pA, 2, none⟩ = some (sq s1) := by simp [World.cell?, hx5]
            have z2 : w5.cell? ⟨pA, 3, none⟩ = some (sr s1) := by simp [World.cell?, hx5]
            have f1 : ∀ o, w5.frozen? ⟨pA, o, none⟩ = false := fun o => by simp [World.frozen?, hx5]
            have f1a := f1 2
            have f1b := f1 3
            have QX := Q5.set1 P5 (turns_two w5 pA 2 3 (.pointer (some ⟨qb, 0, none⟩)) (.pointer (some ⟨rb, 0, none⟩))) (box_two' hx5)
            clear Q3 Q4 q4 b4 b5 r5 y2 y3 hO hO4 Q5 P5 hx5 f1
            go_wp2_with fail
            refine (holds_any _ _ QX.k.r (fun e he => (QX.k.e e he).1) (fun e he => (QX.k.e e he).2.2) (by rw [HN.out]; omega)).mono ?_
            rintro e wn ⟨rfl, mm, rfl⟩
            have QY := QX.drew mm
            clear QX
            go_wp2_with fail
            go_roundw
            case rel => exact ⟨j + 1, _, by omega, rfl, by go_num, by rw [HN.out]; exact hes, ⟨_, _, _, QY⟩⟩
            case measure => simp [intOf]; omega
        · have hxo := Q3.x
          have y0 : (wb.alloc (.cells #[.int .i64 K, .int .i64 W, .int .i64 A, .int .i64 B] 31)).cell? ⟨oB, 0, none⟩ = some (.int .i64 K) := by simp [World.cell?, hO]
          have hKb : (K == 1) = false := by simpa using hK
          cases hs1 : s1 with
          | none =>
            subst hs1
            have z2 : (wb.alloc (.cells #[.int .i64 K, .int .i64 W, .int .i64 A, .int .i64 B] 31)).cell? ⟨pA, 3, none⟩ = some (.pointer none) := by simp [World.cell?, hxo, sr]
            have QX := Q3
            clear Q3 hxo
            go_wp2_with fail
            refine (holds_any _ _ QX.k.r (fun e he => (QX.k.e e he).1) (fun e he => (QX.k.e e he).2.2) (by rw [HN.out]; omega)).mono ?_
            rintro e wn ⟨rfl, mm, rfl⟩
            have QY := QX.drew mm
            clear QX
            go_wp2_with fail
            go_roundw
            case rel => exact ⟨j + 1, _, by omega, rfl, by go_num, by rw [HN.out]; exact hes, ⟨_, _, _, QY⟩⟩
            case measure => simp [intOf]; omega
          | some pp =>
            obtain ⟨qb, rb⟩ := pp
            subst hs1
            have z1 : (wb.alloc (.cells #[.int .i64 K, .int .i64 W, .int .i64 A, .int .i64 B] 31)).cell? ⟨pA, 2, none⟩ = some (.pointer (some ⟨qb, 0, none⟩)) := by simp [World.cell?, hxo, sq]
            have z2 : (wb.alloc (.cells #[.int .i64 K, .int .i64 W, .int .i64 A, .int .i64 B] 31)).cell? ⟨pA, 3, none⟩ = some (.pointer (some ⟨rb, 0, none⟩)) := by simp [World.cell?, hxo, sr]
            have y1 : (wb.alloc (.cells #[.int .i64 K, .int .i64 W, .int .i64 A, .int .i64 B] 31)).cell? ⟨oB, 1, none⟩ = some (.int .i64 W) := by simp [World.cell?, hO]
            have y2 : (wb.alloc (.cells #[.int .i64 K, .int .i64 W, .int .i64 A, .int .i64 B] 31)).cell? ⟨oB, 2, none⟩ = some (.int .i64 A) := by simp [World.cell?, hO]
            have y3 : (wb.alloc (.cells #[.int .i64 K, .int .i64 W, .int .i64 A, .int .i64 B] 31)).cell? ⟨oB, 3, none⟩ = some (.int .i64 B) := by simp [World.cell?, hO]
            obtain ⟨P, L, PP⟩ := Q3.p1 _ rfl
            go_wp2_with fail
            obtain ⟨w3, hw3⟩ : ∃ x, wb.alloc (.cells #[.int .i64 K, .int .i64 W, .int .i64 A, .int .i64 B] 31) = x := ⟨_, rfl⟩
            rw [hw3] at Q3 hO hxo z1 z2 y0 y1 y2 y3 PP ⊢
            have PD := PP.drew 1
            have QD := Q3.drew 1
            clear hw3 hxo PP x0 x1 x2 x3 hoB
            go_region_law
              (first
                | (go_simp; go_at_call 8; refine (plays_any (kl := 5) PD (by decide) (by decide) (by decide) K W A B).mono ?_; rintro e w4 ⟨lv, rfl, G4⟩; dsimp only)
                | fail)
            all_goals
              obtain ⟨l4, L4, xs, P4, -, G4, o4, lb4, hx4, ao4, F4⟩ := G4.x
              have Q4 := QD.step1 G4 P4
              have hO4 : w4.heap[oB]? = some (.cells #[.int .i64 K, .int .i64 W, .int .i64 A, .int .i64 B] 31) := (G4.t.block oB (heap_lt hO) (by rw [lO]; decide)).trans hO
              have u0 : w4.cell? ⟨oB, 0, none⟩ = some (.int .i64 K) := by simp [World.cell?, hO4]
              have hfr : ∀ e ∈ es, ∀ b, e.v.ownBlock = some b → lv.ownBlock ≠ some b := fun e he b hb q => by
                have q1 := own_lt (Q3.k.e e he).1 hb
                have q2 := own_ge o4 q
                have q3 : (w3.drewN 1).heap.size = w3.heap.size := rfl
                omega
              have o5 := ownsRow_mono o4 (Nat.zero_le _)
              have hlv := F4.v
              subst hlv
              clear Q3 PD QD G4 P4 z1 z2 y0 y1 y2 y3 hO hO4 o4
              by_cases h5 : K = 5
              · have h5b : (K == 5) = true := by simpa using h5
                by_cases hN6 : N < 600
                · have d3 : (N : Int) < 600 := by omega
                  go_wp2_with fail
                  refine (keep_any _ _ es xs.length ao4 xs (1000000 + (j : Int)) Q4.k.r o5 F4 hx4 (by rw [HN.out]; omega)).mono ?_
                  rintro e w6 ⟨kv6, g1, g2, rfl, R6⟩
                  have QX := Q4.keep o5 lb4 hfr hx4 R6
                  clear Q4 R6 o5 lb4 hfr F4 u0
                  go_wp2_with fail
                  refine (holds_any _ _ QX.k.r (fun e he => (QX.k.e e he).1) (fun e he => (QX.k.e e he).2.2) (by simp [HN.out]; omega)).mono ?_
                  rintro e wn ⟨rfl, mm, rfl⟩
                  have QY := QX.drew mm
                  clear QX
                  go_wp2_with fail
                  go_roundw
                  case rel => exact ⟨j + 1, _, by omega, rfl, by go_num, by simp [HN.out]; omega, ⟨_, _, _, QY⟩⟩
                  case measure => simp [intOf]; omega
                · have d3 : ¬ (N : Int) < 600 := by omega
                  have QX := Q4
                  clear Q4 o5 lb4 hfr F4
                  go_wp2_with fail
                  refine (holds_any _ _ QX.k.r (fun e he => (QX.k.e e he).1) (fun e he => (QX.k.e e he).2.2) (by rw [HN.out]; omega)).mono ?_
                  rintro e wn ⟨rfl, mm, rfl⟩
                  have QY := QX.drew mm
                  clear QX
                  go_wp2_with fail
                  go_roundw
                  case rel => exact ⟨j + 1, _, by omega, rfl, by go_num, by rw [HN.out]; exact hes, ⟨_, _, _, QY⟩⟩
                  case measure => simp [intOf]; omega
              · have h5b : (K == 5) = false := by simpa using h5
                have QX := Q4
                clear Q4 o5 lb4 hfr F4
                go_wp2_with fail
                refine (holds_any _ _ QX.k.r (fun e he => (QX.k.e e he).1) (fun e he => (QX.k.e e he).2.2) (by rw [HN.out]; omega)).mono ?_
                rintro e wn ⟨rfl, mm, rfl⟩
                have QY := QX.drew mm
                clear QX
                go_wp2_with fail
                go_roundw
                case rel => exact ⟨j + 1, _, by omega, rfl, by go_num, by rw [HN.out]; exact hes, ⟨_, _, _, QY⟩⟩
                case measure => simp [intOf]; omega
    · go_wp2_with fail
      refine (known_any wr).mono ?_
      rintro e w9 ⟨rfl, b9⟩
      go_wp2_with fail
      go_ret
      exact ⟨rfl, Q2.b.b.trans (b9.mono Q2.b.b.size)⟩
end Go.Proofs.Ytkfdneohkgmmbab
