/- annexlaw5.DeviceTwins by its walk. -/
import Derived.Test.YtkffnbcfmaoldaaLJ
namespace Go.Proofs.Ytkffnbcfmaoldaa
open Go.RowKit Go.Maps
set_option maxRecDepth 100000

set_option maxHeartbeats 16000000 in
theorem twins_any (n : Int) (ao : Option Addr) (m c : Nat) (ws : List Stp) (ao2 : Option Addr) (m2 c2 : Nat) (ws2 : List Stp) (x : Int) (w : World) (_hn : -9223372036854775808 ≤ n ∧ n ≤ 9223372036854775807) (hm : m ≤ 140737488351232) (hL : WLies w ao m c ws) (hm2 : m2 ≤ 140737488351232) (hL2 : WLies w ao2 m2 c2 ws2) (_hx : -9223372036854775808 ≤ x ∧ x ≤ 9223372036854775807) :
    Calls Try.prog 8 #[.int .i64 n, .slice ao m c, .slice ao2 m2 c2, .int .i64 x] w fun e w' => e = .returned (.bool true) ∧ Below w.heap.size w w' := by
  have hmi : (m : Int) ≤ 140737488351232 := by omega
  have hmi2 : (m2 : Int) ≤ 140737488351232 := by omega
  have hwl := hL.hlen
  have hwl2 := hL2.hlen
  have hk1 := (sizeN_bd n).1
  have hk2 := (sizeN_bd n).2.1
  have hx2 : -300 < x.tmod 300 ∧ x.tmod 300 < 300 := by
    have : (x.tmod 300).natAbs < 300 := by rw [Int.natAbs_tmod]; exact Nat.mod_lt _ (by decide)
    omega
  obtain ⟨hx20, hx21⟩ := hx2
  obtain ⟨K, hK⟩ : ∃ K : Nat, (x.tmod 300 + 300) % 300 = (K : Int) := ⟨((x.tmod 300 + 300) % 300).toNat, by omega⟩
  have hK' : x.tmod 300 % 300 = (K : Int) := by omega
  have hK2 : K ≤ 300 := by omega
  have hKi2 : (K : Int) ≤ 300 := by omega
  go_enter Try.func8, Try.ntmps8
  go_wp2_with fail
  refine (known_any _).mono ?_
  rintro e w1 ⟨rfl, B1⟩
  go_wp2_with fail
  refine (size_law n _).mono ?_
  rintro e wn ⟨rfl, hwn⟩
  subst wn
  generalize sizeN n = k at *
  have hki : (k : Int) ≤ 64 := by omega
  have hki1 : (1 : Int) ≤ k := by omega
  go_wp2_with fail
  refine (new_good k _ hk1 (by omega)).mono ?_
  rintro e w2 ⟨d, rfl, Dd, b2⟩
  have h2 := On.new B1 Dd b2
  clear Dd b2
  generalize grow (fun _ => False) w1 w2 = F at *
  have hT0 : (fresh (List.replicate (512 * k) 0)).fuse = 0 ∧ (fresh (List.replicate (512 * k) 0)).off = false := ⟨rfl, rfl⟩
  generalize fresh (List.replicate (512 * k) 0) = T0 at *
  go_wp2_with fail
  go_loopw [11] (fun i wr => ∃ (j : Nat) (S : DevS) (N : Nat) (F : Nat → Prop), j ≤ 200 ∧ j ≤ m ∧ i = .int .i64 j ∧ On w wr d S k N F ∧ S.fuse = 0 ∧ S.off = false ∧ N ≤ j) (fun i _ => 200 - (intOf i).toNat)
  case atStart => exact ⟨0, T0, 0, F, Nat.zero_le _, Nat.zero_le _, rfl, h2, hT0.1, hT0.2, Nat.zero_le _⟩
  case round =>
    clear h2 hT0
    obtain ⟨j, S, N, F, hj, hjm, rfl, h, hSf, hSo, hN⟩ := hrel
    by_cases hlt : j < m ∧ j < 200
    · obtain ⟨hlt1, hlt2⟩ := hlt
      have hji : (j : Int) < m := by omega
      have hji2 : (j : Int) < 200 := by omega
      obtain ⟨s, hs⟩ : ∃ s, ws[j]? = some s := ⟨_, List.getElem?_eq_getElem (by omega)⟩
      obtain ⟨hsx, g, o, hao, p0, p1, p2⟩ := hL.hcells j s hs
      subst hao
      have hglt : g < w.heap.size := World.block_lt_of_cell? _ _ p1
      have hpl := (placeN_bd s.b k hk1).1
      obtain ⟨sb, sx, sf⟩ := s
      simp only at hsx p0 p1 p2 hpl
      have r0 := (h.B.cell (p := ⟨g, o + j * 3, none⟩) hglt).trans p0
      have r1 := (h.B.cell (p := ⟨g, o + j * 3 + 1, none⟩) hglt).trans p1
      have r2 := (h.B.cell (p := ⟨g, o + j * 3 + 2, none⟩) hglt).trans p2
      clear hs
      cases sf with
      | true =>
        go_wp2_with fail
        refine (flush_on h.D hSf hSo (by omega)).mono ?_
        rintro e w5 ⟨rfl, D5, t5⟩
        have h5 := h.went ⟨D5, t5⟩
        clear h D5 t5 r0 r1 r2
        go_wp2_with fail
        go_roundw
        case rel => exact ⟨j + 1, flushed S, _, _, by omega, by omega, by go_num, h5, hSf, hSo, by omega⟩
        case measure => simp [intOf]; omega
      | false =>
        have hfl := fun (W : World) (hW : W.heap = wr.heap) => full_on (w := W) (F := F) (by rw [hW]; exact h.D.lt) sx
        have HFL : Hid _ := hfl
        have HWR : Hid (∀ (w5 w6 : World) (g5 : Nat), Out w5 F g5 (List.replicate 512 sx) → Below wr.heap.size wr w5 → w6.heap = w5.heap → w6.os = w5.os → w6.tape = w5.tape → w6.output = w5.output →
            Calls Try.prog 13 #[.pointer (some ⟨d, 0, none⟩), .int .i64 (placeN sb k), .slice (some ⟨g5, 0, none⟩) 512 512] w6 fun e w' => e = .returned (.int .i64 0) ∧ On w w' d (wrote S (placeN sb k) (List.replicate 512 sx)) k (N + 1) (grow F w6 w')) := fun w5 w6 g5 o5 b5 e1 e2 e3 e4 => by
          have b6 : Below wr.heap.size wr w6 := ⟨e2.trans b5.os, e3.trans b5.tape, e4.trans b5.output, by rw [e1]; exact b5.size, fun i hi => by rw [e1]; exact b5.block i hi⟩
          have h6 := h.below b6
          refine (write_on h6.D hSf hSo (placeN sb k) hpl g5 _ ⟨by rw [e1]; exact o5.blk, o5.out⟩ (by simp) (fullD sx hsx) (by omega)).mono ?_
          rintro e w7 ⟨rfl, D7, t7⟩
          exact ⟨rfl, h6.went ⟨D7, t7⟩⟩
        have HB : Hid (Below w.heap.size w wr) := h.B
        clear h hfl
        go_wp2_with fail
        go_region_held3 (fun w' => w'.cell? ⟨g, o + j * 3, none⟩ = some (.int .i64 sb) ∧ w'.cell? ⟨g, o + j * 3 + 1, none⟩ = some (.int .u8 sx))
          (first | exact ⟨r0, r1⟩ | exact ⟨y0, y1⟩ | exact ⟨z0, z1⟩)
          (first
            | (go_at_call 12; refine (place_law _ k hk1 (by omega) _).mono ?_; rintro e wn ⟨rfl, hwn⟩; subst wn)
            | (go_at_call 14; refine (HFL.out wr.drew rfl).mono ?_; rintro e w5 ⟨g5, rfl, o5, b5, _⟩; have b5 : Below wr.heap.size wr w5 := ⟨b5.os, b5.tape, b5.output, b5.size, b5.block⟩; have bb5 := HB.out.trans (b5.mono HB.out.size); have y0 := (bb5.cell (p := ⟨g, o + j * 3, none⟩) hglt).trans p0; have y1 := (bb5.cell (p := ⟨g, o + j * 3 + 1, none⟩) hglt).trans p1)
            | (go_at_call 13; refine (HWR.out w5 w5 g5 o5 b5 rfl rfl rfl rfl).mono ?_; rintro e w6 ⟨rfl, h6⟩; have z0 := (h6.B.cell (p := ⟨g, o + j * 3, none⟩) hglt).trans p0; have z1 := (h6.B.cell (p := ⟨g, o + j * 3 + 1, none⟩) hglt).trans p1))
        all_goals (
          go_wp2_with fail
          go_roundw
          case rel => exact ⟨j + 1, wrote S (placeN sb k) (List.replicate 512 sx), _, _, by omega, by omega, by go_num, h6, hSf, hSo, by omega⟩
          case measure => simp [intOf]; omega)
    · have hlen := h.D.good.len
      have hby := h.D.good.by_
      clear hL
      by_cases hjm2 : (j : Int) < m
      all_goals (
        try (have hj3 : ¬ (j : Int) < 200 := by omega)
        go_wp2_with fail
        refine (durable_on h.D).mono ?_
        rintro e w5 ⟨g5, rfl, o5, D5, t5, _⟩
        have h5 := h.same ⟨D5, t5⟩
        clear h D5 t5
        go_wp2_with fail
        refine (image_good (some ⟨g5, 0, none⟩) k (512 * k) S.last _ hk1 (by omega) (o5.lies hlen) hby).mono ?_
        rintro e w6 ⟨dc, rfl, E6, b6⟩
        have h6 := Pr.image h5 E6 b6
        clear h5 E6 b6 o5
        generalize grow (fun _ => False) w5 w6 = G at *
        go_wp2_with (go_at_call 20; refine (num_id _ _).mono ?_; rintro e wn ⟨rfl, hwn⟩; subst wn)
        refine (crash_nil h6.D (by omega)).mono ?_
        rintro e w7 ⟨rfl, D7, t7⟩
        have h7 := h6.wentL ⟨D7, t7⟩
        clear h6 D7 t7
        generalize grow F w6 w7 = F7 at *
        have harm : armE (fresh S.last) K = 0 ∧ armed (fresh S.last) K = { fresh S.last with fuse := K } := by
          refine ⟨?_, ?_⟩
          · unfold armE
            rw [if_neg (by omega)]; rfl
          · unfold armed
            rw [if_neg (by omega)]; rfl
        generalize fresh S.last = T at *
        go_wp2_with fail
        refine (arm_any h7.D K (by omega)).mono ?_
        rintro e w8 ⟨rfl, q8⟩
        rw [harm.1]
        rw [harm.2] at q8
        have h8 := h7.sameL q8
        clear h7 q8
        go_wp2_with (go_at_call 20; refine (num_id _ _).mono ?_; rintro e wn ⟨rfl, hwn⟩; subst wn)
        refine (arm_any h8.E K (by omega)).mono ?_
        rintro e w9 ⟨rfl, q9⟩
        rw [harm.1]
        rw [harm.2] at q9
        have h9 := h8.sameR q9
        clear h8 q9 harm
        generalize ({ T with fuse := K } : DevS) = T1 at *
        go_wp2_with (go_at_call 20; refine (num_id _ _).mono ?_; rintro e wn ⟨rfl, hwn⟩; subst wn)
        go_loopw [14] (fun i wr => ∃ (j : Nat) (S : DevS) (N M : Nat) (F G : Nat → Prop), j ≤ 200 ∧ j ≤ m2 ∧ i = .int .i64 j ∧ Pr w wr d dc S S k N M F G ∧ N ≤ 200 + j ∧ M ≤ j) (fun i _ => 200 - (intOf i).toNat)
        case atStart => exact ⟨0, T1, N, 0, F7, G, Nat.zero_le _, Nat.zero_le _, rfl, h9, by omega, Nat.zero_le _⟩
        case round =>
          clear h9 hlen hby hj hjm hN hSf hSo
          obtain ⟨j, S, N, M, F, G, hj, hjm, rfl, h, hN, hM⟩ := hrel
          by_cases hlt : j < m2 ∧ j < 200
          · obtain ⟨hlt1, hlt2⟩ := hlt
            have hji : (j : Int) < m2 := by omega
            have hji2 : (j : Int) < 200 := by omega
            obtain ⟨s, hs⟩ : ∃ s, ws2[j]? = some s := ⟨_, List.getElem?_eq_getElem (by omega)⟩
            obtain ⟨hsx, g, o, hao, p0, p1, p2⟩ := hL2.hcells j s hs
            subst hao
            have hglt : g < w.heap.size := World.block_lt_of_cell? _ _ p1
            have hpl := (placeN_bd s.b k hk1).1
            obtain ⟨sb, sx, sf⟩ := s
            simp only at hsx p0 p1 p2 hpl
            have r0 := (h.B.cell (p := ⟨g, o + j * 3, none⟩) hglt).trans p0
            have r1 := (h.B.cell (p := ⟨g, o + j * 3 + 1, none⟩) hglt).trans p1
            have r2 := (h.B.cell (p := ⟨g, o + j * 3 + 2, none⟩) hglt).trans p2
            clear hs
            cases sf with
            | true =>
              go_wp2_with (go_at_call 12; refine (place_law _ k hk1 (by omega) _).mono ?_; rintro e wn ⟨rfl, hwn⟩; subst wn)
              refine (flush_any h.D (by omega)).mono ?_
              rintro e w10 ⟨rfl, q10⟩
              have h10 := h.wentL q10
              clear h q10 r0 r1 r2
              go_wp2_with fail
              refine (flush_any h10.E (by omega)).mono ?_
              rintro e w11 ⟨rfl, q11⟩
              have hG := h10.wentR q11
              clear h10 q11
              generalize flS S = S2 at *
              generalize flE S = E2 at *
              generalize grow G w10 w11 = G2 at *
              have hrl := rdB_len hG.D.good hpl
              by_cases hr : rdE S2 k (placeN sb k) = 0
              all_goals (
                go_wp2_with fail
                refine (read_any hG.D (placeN sb k)).mono ?_
                rintro e wA ⟨qA, sA⟩
                have hA := hG.sameL sA
                first
                | (rcases qA with ⟨q, _⟩ | ⟨_, gA, rfl, lA, bA⟩
                   case inl => exact absurd hr q
                   have nA : ¬ G2 gA := fun q => by have := hG.E.lt gA q; omega
                   rw [Int.toNat_natCast] at bA
                   go_wp2_with fail
                   refine (read_any hA.E (placeN sb k)).mono ?_
                   rintro e wB ⟨qB, sB⟩
                   have hB := hA.sameR sB
                   rcases qB with ⟨q, _⟩ | ⟨_, gB, rfl, lB, bB⟩
                   case inl => exact absurd hr q
                   rw [Int.toNat_natCast] at bB
                   have bA2 := (sB.2.block gA (heap_lt bA) nA).trans bA
                   go_wp2_with fail
                   refine (same_true _ _ 512 512 512 512 _ _ (by omega) (Lies.full bA2 hrl) (Lies.full bB hrl)).mono ?_
                   rintro e wC ⟨rfl, tC, rfl⟩
                   have hC := hB.drewN tC)
                | (rcases qA with ⟨_, rfl⟩ | ⟨q, _⟩
                   case inr => exact absurd q hr
                   go_wp2_with fail
                   refine (read_any hA.E (placeN sb k)).mono ?_
                   rintro e wB ⟨qB, sB⟩
                   have hB := hA.sameR sB
                   rcases qB with ⟨_, rfl⟩ | ⟨q, _⟩
                   case inr => exact absurd q hr
                   go_wp2_with fail
                   refine (same_true _ _ 0 0 0 0 [] _ (by omega) (Lies.nil _) (Lies.nil _)).mono ?_
                   rintro e wC ⟨rfl, tC, rfl⟩
                   have hC := hB.drewN tC)
                go_wp2_with (go_at_call 20; refine (num_id _ _).mono ?_; rintro e wn ⟨rfl, hwn⟩; subst wn)
                go_roundw
                case rel => exact ⟨j + 1, S2, _, _, _, _, by omega, by omega, by go_num, hC, by omega, by omega⟩
                case measure => simp [intOf]; omega)
            | false =>
              go_wp2_with (go_at_call 12; refine (place_law _ k hk1 (by omega) _).mono ?_; rintro e wn ⟨rfl, hwn⟩; subst wn)
              refine (full_on h.D.lt sx).mono ?_
              rintro e w10 ⟨g10, rfl, o10, b10, _⟩
              have h10 := h.below b10
              clear h b10 r0 r1 r2
              go_wp2_with fail
              refine (write_any h10.D (placeN sb k) (some ⟨g10, 0, none⟩) 512 512 _ (o10.lies (by simp)) (fullD sx hsx) (fun ad had => by obtain rfl := Option.some.inj had; exact o10.out) (by omega)).mono ?_
              rintro e w11 ⟨rfl, q11⟩
              have h11 := h10.wentL q11
              clear h10 q11 o10
              have r1 := (h11.B.cell (p := ⟨g, o + j * 3 + 1, none⟩) hglt).trans p1
              go_wp2_with fail
              refine (full_on h11.E.lt sx).mono ?_
              rintro e w12 ⟨g12, rfl, o12, b12, _⟩
              have h12 := h11.below b12
              clear h11 b12 r1
              go_wp2_with fail
              refine (write_any h12.E (placeN sb k) (some ⟨g12, 0, none⟩) 512 512 _ (o12.lies (by simp)) (fullD sx hsx) (fun ad had => by obtain rfl := Option.some.inj had; exact o12.out) (by omega)).mono ?_
              rintro e w13 ⟨rfl, q13⟩
              have hG := h12.wentR q13
              clear h12 q13 o12
              generalize wrS S k (placeN sb k) (List.replicate 512 sx) = S2 at *
              generalize wrE S k (placeN sb k) 512 = E2 at *
              generalize grow G w12 w13 = G2 at *
              have hrl := rdB_len hG.D.good hpl
              by_cases hr : rdE S2 k (placeN sb k) = 0
              all_goals (
                go_wp2_with fail
                refine (read_any hG.D (placeN sb k)).mono ?_
                rintro e wA ⟨qA, sA⟩
                have hA := hG.sameL sA
                first
                | (rcases qA with ⟨q, _⟩ | ⟨_, gA, rfl, lA, bA⟩
                   case inl => exact absurd hr q
                   have nA : ¬ G2 gA := fun q => by have := hG.E.lt gA q; omega
                   rw [Int.toNat_natCast] at bA
                   go_wp2_with fail
                   refine (read_any hA.E (placeN sb k)).mono ?_
                   rintro e wB ⟨qB, sB⟩
                   have hB := hA.sameR sB
                   rcases qB with ⟨q, _⟩ | ⟨_, gB, rfl, lB, bB⟩
                   case inl => exact absurd hr q
                   rw [Int.toNat_natCast] at bB
                   have bA2 := (sB.2.block gA (heap_lt bA) nA).trans bA
                   go_wp2_with fail
                   refine (same_true _ _ 512 512 512 512 _ _ (by omega) (Lies.full bA2 hrl) (Lies.full bB hrl)).mono ?_
                   rintro e wC ⟨rfl, tC, rfl⟩
                   have hC := hB.drewN tC)
                | (rcases qA with ⟨_, rfl⟩ | ⟨q, _⟩
                   case inr => exact absurd q hr
                   go_wp2_with fail
                   refine (read_any hA.E (placeN sb k)).mono ?_
                   rintro e wB ⟨qB, sB⟩
                   have hB := hA.sameR sB
                   rcases qB with ⟨_, rfl⟩ | ⟨q, _⟩
                   case inr => exact absurd q hr
                   go_wp2_with fail
                   refine (same_true _ _ 0 0 0 0 [] _ (by omega) (Lies.nil _) (Lies.nil _)).mono ?_
                   rintro e wC ⟨rfl, tC, rfl⟩
                   have hC := hB.drewN tC)
                go_wp2_with (go_at_call 20; refine (num_id _ _).mono ?_; rintro e wn ⟨rfl, hwn⟩; subst wn)
                go_roundw
                case rel => exact ⟨j + 1, S2, _, _, _, _, by omega, by omega, by go_num, hC, by omega, by omega⟩
                case measure => simp [intOf]; omega)
          · have hlen := h.D.good.len
            have hpm : ∀ p ∈ S.pend, p.2.length = 512 := fun p hp => (h.D.good.pend p hp).2.1
            have hpn : S.pend.length ≤ M := by
              obtain ⟨gl, bm, q, pv, gs, Dm, hX, _⟩ := h.E
              exact hX.pn
            by_cases hjm3 : (j : Int) < m2
            all_goals (
              try (have hj4 : ¬ (j : Int) < 200 := by omega)
              go_wp2_with fail
              refine h.dur.mono ?_
              rintro e wA ⟨gA, rfl, hA, dA, _, nA⟩
              clear h
              go_wp2_with fail
              refine (hA.dur2 dA nA).mono ?_
              rintro e wB ⟨gB, rfl, hB, dB, dB'⟩
              clear hA
              go_wp2_with fail
              refine (hB.same (by omega) hlen dB dB').mono ?_
              rintro e wC ⟨rfl, hC⟩
              clear hB dB dB' dA
              go_wp2_with fail
              refine (hC.pen (by omega)).mono ?_
              rintro e wD ⟨PD, gsD, rfl, hD, lD, nD, nD'⟩
              clear hC
              go_wp2_with fail
              refine (hD.pen2 (by omega) lD nD nD').mono ?_
              rintro e wE ⟨PE, gsE, rfl, hE, lE, lE'⟩
              clear hD lD
              go_wp2_with fail
              refine (hE.samePen (by omega) rfl hpm lE lE').mono ?_
              rintro e wF ⟨rfl, hF⟩
              clear hE lE lE'
              go_wp2_with fail
              refine (power_any hF.D).mono ?_
              rintro e wG ⟨rfl, qG⟩
              have hG := hF.sameL qG
              clear hF qG
              go_wp2_with fail
              refine (power_any hG.E).mono ?_
              rintro e wH ⟨rfl, qH⟩
              have hH := hG.sameR qH
              clear hG qH
              go_wp2_with fail
              refine (size_any hH.D).mono ?_
              rintro e wI ⟨rfl, qI⟩
              have hI := hH.sameL qI
              clear hH qI
              go_wp2_with fail
              refine (size_any hI.E).mono ?_
              rintro e wJ ⟨rfl, qJ⟩
              have hJ := hI.sameR qJ
              clear hI qJ
              go_wp2_with fail
              go_ret
              exact ⟨rfl, hJ.B⟩))
end Go.Proofs.Ytkffnbcfmaoldaa
