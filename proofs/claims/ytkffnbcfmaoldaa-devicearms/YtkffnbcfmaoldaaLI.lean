/- annexlaw5.DeviceArms by its walk. -/
import Derived.Test.YtkffnbcfmaoldaaLH
namespace Go.Proofs.Ytkffnbcfmaoldaa
open Go.RowKit Go.Maps
set_option maxRecDepth 100000

/-- An armed device, j operations behind its arming with K, beside one that is not. -/
def armD (T : DevS) (K j : Nat) : DevS := { T with fuse := K - j, off := decide (K ≤ j) }
theorem armD_burn (T : DevS) (K j : Nat) (_hK : 1 ≤ K) : burnt (armD T K j) = armD T K (j + 1) := by
  unfold burnt armD
  by_cases h : K - j = 0
  · rw [if_pos h]
    have e1 : decide (K ≤ j) = decide (K ≤ j + 1) := by
      rw [decide_eq_true (show K ≤ j by omega), decide_eq_true (show K ≤ j + 1 by omega)]
    rw [e1, show K - (j + 1) = K - j by omega]
  · rw [if_neg h]
    have e1 : (decide (K ≤ j) || decide (K - j = 1)) = decide (K ≤ j + 1) := by
      rw [decide_eq_false (show ¬ K ≤ j by omega), Bool.false_or]
      by_cases h2 : K ≤ j + 1
      · rw [decide_eq_true h2, decide_eq_true (show K - j = 1 by omega)]
      · rw [decide_eq_false h2, decide_eq_false (show ¬ K - j = 1 by omega)]
    simp only [e1]
    rw [show K - j - 1 = K - (j + 1) by omega]
theorem armD_fl_no (T : DevS) (K j : Nat) (hK : 1 ≤ K) (h : K ≤ j + 1) : flE (armD T K j) = 3 ∧ flS (armD T K j) = armD T K (j + 1) := by
  unfold flE flS
  rw [armD_burn T K j hK]
  have : (armD T K (j + 1)).off = true := decide_eq_true h
  rw [this]; simp
theorem armD_fl_ok (T : DevS) (K j : Nat) (hK : 1 ≤ K) (h : ¬ K ≤ j + 1) : flE (armD T K j) = 0 ∧ flS (armD T K j) = armD (flushed T) K (j + 1) := by
  unfold flE flS
  rw [armD_burn T K j hK]
  have : (armD T K (j + 1)).off = false := decide_eq_false h
  rw [this]; simp; rfl
theorem armD_wr_no (T : DevS) (K j k b : Nat) (d : List Int) (hK : 1 ≤ K) (hb : b < k) (hd : d.length = 512) (h : K ≤ j + 1) : wrE (armD T K j) k b 512 = 3 ∧ wrS (armD T K j) k b d = armD T K (j + 1) := by
  have hbk : 0 ≤ (b : Int) ∧ (b : Int) < k := ⟨by omega, by omega⟩
  have : (armD T K (j + 1)).off = true := decide_eq_true h
  refine ⟨?_, ?_⟩
  · unfold wrE
    rw [armD_burn T K j hK, if_neg (fun q => q hbk), if_neg (fun q => q rfl), this]
    simp
  · unfold wrS
    rw [armD_burn T K j hK, if_neg (fun q => q hbk), if_neg (fun q => q hd), this]
    simp
theorem armD_wr_ok (T : DevS) (K j k b : Nat) (d : List Int) (hK : 1 ≤ K) (hb : b < k) (hd : d.length = 512) (h : ¬ K ≤ j + 1) : wrE (armD T K j) k b 512 = 0 ∧ wrS (armD T K j) k b d = armD (wrote T b d) K (j + 1) := by
  have hbk : 0 ≤ (b : Int) ∧ (b : Int) < k := ⟨by omega, by omega⟩
  have : (armD T K (j + 1)).off = false := decide_eq_false h
  refine ⟨?_, ?_⟩
  · unfold wrE
    rw [armD_burn T K j hK, if_neg (fun q => q hbk), if_neg (fun q => q rfl), this]
    simp
  · unfold wrS
    rw [armD_burn T K j hK, if_neg (fun q => q hbk), if_neg (fun q => q hd), this]
    simp; rfl
theorem wr_none (S : DevS) (k : Nat) (d : List Int) (n : Nat) : wrE S k k n = 52 ∧ wrS S k k d = S := by
  refine ⟨?_, ?_⟩
  · unfold wrE
    rw [if_pos (by omega)]
  · unfold wrS
    rw [if_pos (by omega)]
theorem wr_short (S : DevS) (k : Nat) (hk : 1 ≤ k) : wrE S k 0 0 = 53 ∧ wrS S k 0 [] = S := by
  have hbk : (0 : Int) ≤ 0 ∧ (0 : Int) < k := ⟨by omega, by omega⟩
  refine ⟨?_, ?_⟩
  · unfold wrE
    rw [if_neg (fun q => q hbk), if_pos (by omega)]
  · unfold wrS
    rw [if_neg (fun q => q hbk), if_pos (by simp)]
theorem Went.crash {w w' : World} {db : Nat} {S : DevS} {k N : Nat} {F : Nat → Prop} (h1 : Dev w' db 0 S k N (grow F w w')) (h2 : Turns F w w') : Went w w' db S k N F := ⟨h1, h2⟩

set_option maxHeartbeats 16000000 in
theorem arms_any (n x : Int) (ao : Option Addr) (m c : Nat) (ws : List Stp) (w : World) (_hn : -9223372036854775808 ≤ n ∧ n ≤ 9223372036854775807) (_hx : -9223372036854775808 ≤ x ∧ x ≤ 9223372036854775807) (hm : m ≤ 140737488351232) (hL : WLies w ao m c ws) :
    Calls Try.prog 7 #[.int .i64 n, .int .i64 x, .slice ao m c] w fun e w' => e = .returned (.bool true) ∧ Below w.heap.size w w' := by
  have hmi : (m : Int) ≤ 140737488351232 := by omega
  have hwl := hL.hlen
  have hk1 := (sizeN_bd n).1
  have hk2 := (sizeN_bd n).2.1
  have hx2 : -200 < x.tmod 200 ∧ x.tmod 200 < 200 := by
    have : (x.tmod 200).natAbs < 200 := by rw [Int.natAbs_tmod]; exact Nat.mod_lt _ (by decide)
    omega
  obtain ⟨hx20, hx21⟩ := hx2
  obtain ⟨K, hK⟩ : ∃ K : Nat, 1 + x.tmod 200 % 200 = (K : Int) := ⟨(1 + x.tmod 200 % 200).toNat, by omega⟩
  have hK1 : 1 ≤ K := by omega
  have hK2 : K ≤ 200 := by omega
  have hKi1 : (1 : Int) ≤ K := by omega
  have hKi2 : (K : Int) ≤ 200 := by omega
  go_enter Try.func7, Try.ntmps7
  go_wp2_with fail
  refine (known_any _).mono ?_
  rintro e w1 ⟨rfl, B1⟩
  go_wp2_with fail
  refine (size_law n _).mono ?_
  rintro e wn ⟨rfl, hwn⟩
  subst wn
  generalize sizeN n = k at *
  have hki : (k : Int) ≤ 64 := by omega
  have hki1 : (1 : Int) ≤ k := by omega
  go_wp2_with fail
  refine (new_good k _ hk1 (by omega)).mono ?_
  rintro e w2 ⟨d, rfl, Dd, b2⟩
  go_wp2_with fail
  refine (new_good k _ hk1 (by omega)).mono ?_
  rintro e w3 ⟨dc, rfl, Dc, b3⟩
  have h3 := Pr.new B1 Dd b2 Dc b3
  clear Dd b2 Dc b3
  generalize grow (fun _ => False) w1 w2 = F at *
  generalize grow (fun _ => False) w2 w3 = G at *
  have hT0 : (fresh (List.replicate (512 * k) 0)).fuse = 0 ∧ (fresh (List.replicate (512 * k) 0)).off = false := ⟨rfl, rfl⟩
  have harm : armE (fresh (List.replicate (512 * k) 0)) K = 0 ∧ armed (fresh (List.replicate (512 * k) 0)) K = armD (fresh (List.replicate (512 * k) 0)) K 0 := by
    refine ⟨?_, ?_⟩
    · unfold armE
      rw [if_neg (by omega), hT0.2]
      rfl
    · unfold armed
      rw [if_neg (by omega), hT0.2]
      unfold armD
      rw [decide_eq_false (by omega)]
      rfl
  generalize fresh (List.replicate (512 * k) 0) = T0 at *
  go_wp2_with fail
  refine (arm_any h3.D K (by omega)).mono ?_
  rintro e w4 ⟨rfl, q4⟩
  rw [harm.1]
  rw [harm.2] at q4
  have h4 := h3.sameL q4
  clear h3 q4 harm
  go_wp2_with (go_at_call 20; refine (num_id _ _).mono ?_; rintro e wn ⟨rfl, hwn⟩; subst wn)
  go_loopw [11, 12] (fun dn i wr => ∃ (j : Nat) (T : DevS) (N M : Nat) (F G : Nat → Prop), j ≤ 400 ∧ j ≤ m ∧ dn = .int .i64 j ∧ i = .int .i64 j ∧ Pr w wr d dc (armD T K j) T k N M F G ∧ T.fuse = 0 ∧ T.off = false ∧ N ≤ 4 * j ∧ M ≤ 4 * j) (fun _ i _ => 400 - (intOf i).toNat)
  case atStart => exact ⟨0, T0, 0, 0, F, G, Nat.zero_le _, Nat.zero_le _, rfl, rfl, h4, hT0.1, hT0.2, Nat.zero_le _, Nat.zero_le _⟩
  case round =>
    clear h4 hT0
    obtain ⟨j, T, N, M, F, G, hj, hjm, rfl, rfl, h, hTf, hTo, hN, hM⟩ := hrel
    by_cases hlt : j < m ∧ j < 400
    · obtain ⟨hlt1, hlt2⟩ := hlt
      have hji : (j : Int) < m := by omega
      have hji2 : (j : Int) < 400 := by omega
      obtain ⟨s, hs⟩ : ∃ s, ws[j]? = some s := ⟨_, List.getElem?_eq_getElem (by omega)⟩
      obtain ⟨hsx, g, o, hao, p0, p1, p2⟩ := hL.hcells j s hs
      subst hao
      have hglt : g < w.heap.size := World.block_lt_of_cell? _ _ p1
      have hpl := (placeN_bd s.b k hk1).1
      obtain ⟨sb, sx, sf⟩ := s
      simp only at hsx p0 p1 p2 hpl
      clear hs
      go_wp2_with fail
      refine (full_on h.D.lt 1).mono ?_
      rintro e w5 ⟨g5, rfl, o5, b5, _⟩
      have h5 := h.below b5
      go_wp2_with fail
      refine (write_any h5.D k (some ⟨g5, 0, none⟩) 512 512 _ (o5.lies (by simp)) (fullD 1 (by omega)) (fun ad had => by obtain rfl := Option.some.inj had; exact o5.out) (by omega)).mono ?_
      rintro e w6 ⟨rfl, q6⟩
      rw [(wr_none _ k [] 512).1]
      rw [(wr_none _ k _ 512).2] at q6
      have h6 := h5.wentL q6
      generalize grow F w5 w6 = F6 at *
      clear h h5 q6 o5 b5
      go_wp2_with fail
      refine (write_any h6.D 0 none 0 0 [] (Lies.nil _) (fun x hx => by cases hx) (fun ad had => by cases had) (by omega)).mono ?_
      rintro e w7 ⟨rfl, q7⟩
      rw [(wr_short _ k hk1).1]
      rw [(wr_short _ k hk1).2] at q7
      have h7 := h6.wentL q7
      generalize grow F6 w6 w7 = F7 at *
      clear h6 q7
      have r0 := (h7.B.cell hglt).trans p0
      have r1 := (h7.B.cell (p := ⟨g, o + j * 3 + 1, none⟩) hglt).trans p1
      have r2 := (h7.B.cell (p := ⟨g, o + j * 3 + 2, none⟩) hglt).trans p2
      cases sf with
      | true =>
        go_wp2_with (first
          | (go_at_call 20; refine (num_id _ _).mono ?_; rintro e wn ⟨rfl, hwn⟩; subst wn)
          | (go_at_call 12; refine (place_law _ k hk1 (by omega) _).mono ?_; rintro e wn ⟨rfl, hwn⟩; subst wn))
        refine (flush_any h7.D (by omega)).mono ?_
        rintro e w8 ⟨rfl, q8⟩
        by_cases hkj : K ≤ j + 1
        · rw [(armD_fl_no T K j hK1 hkj).1]
          rw [(armD_fl_no T K j hK1 hkj).2] at q8
          have h8 := h7.wentL q8
          generalize grow F7 w7 w8 = F8 at *
          clear h7 q8 r0 r1 r2
          have hkji : ¬ ((j : Int) + 1 < K) := by omega
          go_wp2_with (first
            | (go_at_call 20; refine (num_id _ _).mono ?_; rintro e wn ⟨rfl, hwn⟩; subst wn))
          refine (power_any h8.D).mono ?_
          rintro e w9 ⟨rfl, q9⟩
          have hoff : (armD T K (j + 1)).off = true := decide_eq_true hkj
          rw [hoff]
          have h9 := h8.sameL q9
          clear h8 q9 hoff
          go_wp2_with fail
          go_roundw
          case rel => exact ⟨j + 1, T, _, _, _, _, by omega, by omega, by go_num, by go_num, h9, hTf, hTo, by omega, by omega⟩
          case measure => simp [intOf]; omega
        · rw [(armD_fl_ok T K j hK1 hkj).1]
          rw [(armD_fl_ok T K j hK1 hkj).2] at q8
          have h8 := h7.wentL q8
          generalize grow F7 w7 w8 = F8 at *
          clear h7 q8 r0 r1 r2
          have hkji : (j : Int) + 1 < K := by omega
          go_wp2_with (first
            | (go_at_call 20; refine (num_id _ _).mono ?_; rintro e wn ⟨rfl, hwn⟩; subst wn))
          refine (power_any h8.D).mono ?_
          rintro e w9 ⟨rfl, q9⟩
          have hoff : (armD (flushed T) K (j + 1)).off = false := decide_eq_false hkj
          rw [hoff]
          have h9 := h8.sameL q9
          clear h8 q9 hoff
          have r2 := (h9.B.cell (p := ⟨g, o + j * 3 + 2, none⟩) hglt).trans p2
          go_wp2_with fail
          refine (flush_on h9.E hTf hTo (by omega)).mono ?_
          rintro e w10 ⟨rfl, E10, t10⟩
          have h10 := h9.wentR ⟨E10, t10⟩
          clear h9 E10 t10 r2
          have r2 := (h10.B.cell (p := ⟨g, o + j * 3 + 2, none⟩) hglt).trans p2
          go_wp2_with fail
          go_roundw
          case rel => exact ⟨j + 1, flushed T, _, _, _, _, by omega, by omega, by go_num, by go_num, h10, hTf, hTo, by omega, by omega⟩
          case measure => simp [intOf]; omega
      | false =>
        go_wp2_with (first
          | (go_at_call 20; refine (num_id _ _).mono ?_; rintro e wn ⟨rfl, hwn⟩; subst wn)
          | (go_at_call 12; refine (place_law _ k hk1 (by omega) _).mono ?_; rintro e wn ⟨rfl, hwn⟩; subst wn))
        refine (full_on h7.D.lt sx).mono ?_
        rintro e w7b ⟨g7, rfl, o7, b7, _⟩
        have h7b := h7.below b7
        clear h7 b7 r0 r1 r2
        go_wp2_with fail
        refine (write_any h7b.D (placeN sb k) (some ⟨g7, 0, none⟩) 512 512 _ (o7.lies (by simp)) (fullD sx hsx) (fun ad had => by obtain rfl := Option.some.inj had; exact o7.out) (by omega)).mono ?_
        rintro e w8 ⟨rfl, q8⟩
        by_cases hkj : K ≤ j + 1
        · rw [(armD_wr_no T K j k (placeN sb k) (List.replicate 512 sx) hK1 hpl (by simp) hkj).1]
          rw [(armD_wr_no T K j k (placeN sb k) (List.replicate 512 sx) hK1 hpl (by simp) hkj).2] at q8
          have h8 := h7b.wentL q8
          generalize grow F7 w7b w8 = F8 at *
          clear h7b q8 o7
          have hkji : ¬ ((j : Int) + 1 < K) := by omega
          go_wp2_with (first
            | (go_at_call 20; refine (num_id _ _).mono ?_; rintro e wn ⟨rfl, hwn⟩; subst wn))
          refine (power_any h8.D).mono ?_
          rintro e w9 ⟨rfl, q9⟩
          have hoff : (armD T K (j + 1)).off = true := decide_eq_true hkj
          rw [hoff]
          have h9 := h8.sameL q9
          clear h8 q9 hoff
          go_wp2_with fail
          go_roundw
          case rel => exact ⟨j + 1, T, _, _, _, _, by omega, by omega, by go_num, by go_num, h9, hTf, hTo, by omega, by omega⟩
          case measure => simp [intOf]; omega
        · rw [(armD_wr_ok T K j k (placeN sb k) (List.replicate 512 sx) hK1 hpl (by simp) hkj).1]
          rw [(armD_wr_ok T K j k (placeN sb k) (List.replicate 512 sx) hK1 hpl (by simp) hkj).2] at q8
          have h8 := h7b.wentL q8
          generalize grow F7 w7b w8 = F8 at *
          clear h7b q8 o7
          have hkji : (j : Int) + 1 < K := by omega
          go_wp2_with (first
            | (go_at_call 20; refine (num_id _ _).mono ?_; rintro e wn ⟨rfl, hwn⟩; subst wn))
          refine (power_any h8.D).mono ?_
          rintro e w9 ⟨rfl, q9⟩
          have hoff : (armD (wrote T (placeN sb k) (List.replicate 512 sx)) K (j + 1)).off = false := decide_eq_false hkj
          rw [hoff]
          have h9 := h8.sameL q9
          clear h8 q9 hoff
          have r2 := (h9.B.cell (p := ⟨g, o + j * 3 + 2, none⟩) hglt).trans p2
          have r1 := (h9.B.cell (p := ⟨g, o + j * 3 + 1, none⟩) hglt).trans p1
          go_wp2_with fail
          refine (full_on h9.E.lt sx).mono ?_
          rintro e w10 ⟨g10, rfl, o10, b10, _⟩
          have h10 := h9.below b10
          clear h9 b10 r1 r2
          go_wp2_with fail
          refine (write_on h10.E hTf hTo (placeN sb k) hpl g10 _ o10 (by simp) (fullD sx hsx) (by omega)).mono ?_
          rintro e w11 ⟨rfl, E11, t11⟩
          have h11 := h10.wentR ⟨E11, t11⟩
          clear h10 E11 t11 o10
          go_wp2_with fail
          go_roundw
          case rel => exact ⟨j + 1, wrote T (placeN sb k) (List.replicate 512 sx), _, _, _, _, by omega, by omega, by go_num, by go_num, h11, hTf, hTo, by omega, by omega⟩
          case measure => simp [intOf]; omega
    · have hlast : (armD T K j).last = T.last := rfl
      have hpend : (armD T K j).pend = T.pend := rfl
      have hlen := h.E.good.len
      have hpm : ∀ p ∈ T.pend, p.2.length = 512 := fun p hp => (h.E.good.pend p hp).2.1
      have hpn : T.pend.length ≤ M := by
        obtain ⟨gl, bm, q, pv, gs, Dm, hX, _⟩ := h.E
        exact hX.pn
      clear hL
      by_cases hjm2 : (j : Int) < m
      all_goals (
        try (have hj3 : ¬ (j : Int) < 400 := by omega)
        go_wp2_with fail
        refine h.dur.mono ?_
        rintro e w5 ⟨g5, rfl, h5, d5, _, n5⟩
        rw [hlast] at d5
        clear h
        go_wp2_with fail
        refine (h5.dur2 d5 n5).mono ?_
        rintro e w6 ⟨g6, rfl, h6, d6, d6'⟩
        clear h5
        go_wp2_with fail
        refine (h6.same (by omega) hlen d6 d6').mono ?_
        rintro e w7 ⟨rfl, h7⟩
        clear h6 d6 d6' d5
        go_wp2_with fail
        refine (h7.pen (by omega)).mono ?_
        rintro e w8 ⟨P8, gs8, rfl, h8, l8, n8, n8'⟩
        rw [hpend] at l8 ⊢
        clear h7
        go_wp2_with fail
        refine (h8.pen2 (by omega) l8 n8 n8').mono ?_
        rintro e w9 ⟨P9, gs9, rfl, h9, l9, l9'⟩
        clear h8 l8
        go_wp2_with fail
        refine (h9.samePen (by omega) rfl hpm l9 l9').mono ?_
        rintro e w10 ⟨rfl, h10⟩
        clear h9 l9 l9'
        go_wp2_with fail
        refine (read_any h10.D 0).mono ?_
        rintro e w11 ⟨q11, q11'⟩
        have h11 := h10.sameL q11'
        clear h10 q11'
        have fin : ∀ (W : World) (F G : Nat → Prop) (S : DevS) (N M : Nat), True := fun _ _ _ _ _ _ => trivial
        clear fin
        by_cases hkj : K ≤ j
        all_goals (
          first
          | (have hkji : (K : Int) ≤ j := by omega
             have hoff : (armD T K j).off = true := decide_eq_true hkj
             have e11 : rdE (armD T K j) k 0 = 3 := by
               unfold rdE
               rw [if_neg (fun q => q ⟨by omega, by omega⟩), hoff]; rfl
             rcases q11 with ⟨_, rfl⟩ | ⟨q, _⟩
             case inr => rw [e11] at q; cases q
             rw [e11]
             go_wp2_with (first
               | (go_at_call 20; refine (num_id _ _).mono ?_; rintro e wn ⟨rfl, hwn⟩; subst wn))
             have ea : armE (armD T K j) 0 = 3 ∧ armed (armD T K j) 0 = armD T K j := by
               refine ⟨?_, ?_⟩
               · unfold armE; rw [if_neg (by omega), hoff]; rfl
               · unfold armed; rw [if_neg (by omega), hoff]; rfl
             refine (arm_any h11.D 0 (by omega)).mono ?_
             rintro e w12 ⟨rfl, q12⟩
             rw [ea.1]
             rw [ea.2] at q12
             have h12 := h11.sameL q12
             clear h11 q12 ea e11 hoff
             go_wp2_with (first
               | (go_at_call 20; refine (num_id _ _).mono ?_; rintro e wn ⟨rfl, hwn⟩; subst wn)))
          | (have hkji : ¬ (K : Int) ≤ j := by omega
             have hoff : (armD T K j).off = false := decide_eq_false hkj
             have e11 : rdE (armD T K j) k 0 = 0 := by
               unfold rdE
               rw [if_neg (fun q => q ⟨by omega, by omega⟩), hoff]; rfl
             rcases q11 with ⟨q, _⟩ | ⟨_, g11, rfl, _, _⟩
             case inl => exact absurd e11 q
             have h12 := h11
             clear h11 e11 hoff
             go_wp2_with (first
               | (go_at_call 20; refine (num_id _ _).mono ?_; rintro e wn ⟨rfl, hwn⟩; subst wn)))
          refine (crash_nil h12.D (by omega)).mono ?_
          rintro e w13 ⟨rfl, D13, t13⟩
          have h13 := h12.wentL ⟨D13, t13⟩
          rw [hlast] at h13
          clear h12 D13 t13
          go_wp2_with fail
          refine (crash_nil h13.E (by omega)).mono ?_
          rintro e w14 ⟨rfl, E14, t14⟩
          have h14 := h13.wentR ⟨E14, t14⟩
          clear h13 E14 t14
          go_wp2_with fail
          refine h14.dur.mono ?_
          rintro e w15 ⟨g15, rfl, h15, d15, _, n15⟩
          clear h14
          go_wp2_with fail
          refine (h15.dur2 d15 n15).mono ?_
          rintro e w16 ⟨g16, rfl, h16, d16, d16'⟩
          clear h15
          go_wp2_with fail
          refine (h16.same (by omega) hlen d16 d16').mono ?_
          rintro e w17 ⟨rfl, h17⟩
          clear h16 d16 d16' d15
          go_wp2_with fail
          refine (full_on h17.D.lt 3).mono ?_
          rintro e w18 ⟨g18, rfl, o18, b18, _⟩
          have h18 := h17.below b18
          clear h17 b18
          go_wp2_with fail
          refine (write_on h18.D rfl rfl 0 (by omega) g18 _ o18 (by simp) (fullD 3 (by omega)) (by omega)).mono ?_
          rintro e w19 ⟨rfl, D19, t19⟩
          have h19 := h18.wentL ⟨D19, t19⟩
          clear h18 D19 t19
          go_wp2_with (first
            | (go_at_call 20; refine (num_id _ _).mono ?_; rintro e wn ⟨rfl, hwn⟩; subst wn))
          go_ret
          exact ⟨rfl, h19.B⟩))
end Go.Proofs.Ytkffnbcfmaoldaa
