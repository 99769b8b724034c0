/- annexlaw5.DeviceOwns by its walk. -/
import Derived.Test.YtkffnbcfmaoldabOG
import Derived.Test.YtkffnbcfmaoldabMW
namespace Go.Proofs.Ytkffnbcfmaoldab
open Go.RowKit Go.Maps
set_option maxRecDepth 100000

/-- What DeviceOwns holds in a round. -/
structure Ow (w0 w : World) (d : Nat) (S : DevS) (k N : Nat) (F : Nat → Prop) (hb gb : Nat) (K : Nat → Prop) (vL vW pv : Value) (es : List It) (ps : List (Nat × Nat)) (L : Nat) : Prop where
  lk : Lk w0 w d S k N F hb K vL vW pv es ps
  bf : Bf w gb F
  g0 : w0.heap.size ≤ gb
  g1 : ¬ K gb
  g2 : pv.ownBlock ≠ some gb
  g3 : ∀ p ∈ ps, p.1 ≠ gb
  fu : S.fuse = 0
  of : S.off = false
  el : es.length ≤ 12 * L
  pl : ps.length = 2 * L
  eL : ∀ e ∈ es, e.L.length ≤ 4096
  pL : ∀ p ∈ ps, p.2 ≤ 1000
  pb : ∀ p ∈ ps, w0.heap.size ≤ p.1
theorem Ow.wrote {w0 w w' : World} {d : Nat} {S : DevS} {k N N' : Nat} {F : Nat → Prop} {hb gb : Nat} {K : Nat → Prop} {vL vW pv : Value} {es : List It} {ps : List (Nat × Nat)} {L : Nat} (h : Ow w0 w d S k N F hb gb K vL vW pv es ps L) (s : Stp) (D : Dev w' d 0 (stpS k S s) k N' (grow F w w')) (b : Bf w' gb (grow F w w')) (t : Turns (fun i => F i ∨ i = gb) w w') : Ow w0 w' d (stpS k S s) k N' (grow F w w') hb gb K vL vW pv es ps L :=
  { h with
    lk := h.lk.went D t h.g0 h.g1 h.g2 h.g3
    bf := b
    fu := by unfold stpS; split <;> exact h.fu
    of := by unfold stpS; split <;> exact h.of }
theorem Ow.looked {w0 w w' : World} {d : Nat} {S : DevS} {k N : Nat} {F : Nat → Prop} {hb gb : Nat} {K K' : Nat → Prop} {vL vW pv vL' vW' pv' : Value} {es es' : List It} {ps ps' : List (Nat × Nat)} {L : Nat} (h : Ow w0 w d S k N F hb gb K vL vW pv es ps L) (lk : Lk w0 w' d S k N F hb K' vL' vW' pv' es' ps') (sn : Sn w w' F K pv es ps K' pv' es' ps' 12 2) : Ow w0 w' d S k N F hb gb K' vL' vW' pv' es' ps' (L + 1) := by
  obtain ⟨bs, hgb, hbl⟩ := h.bf.dat
  have hlt := heap_lt hgb
  refine { lk := lk, bf := ⟨⟨bs, (sn.t.block gb hlt (fun q => ?_)).trans hgb, hbl⟩, h.bf.out⟩, g0 := h.g0, g1 := fun q => ?_, g2 := fun q => ?_, g3 := fun p hp q => ?_, fu := h.fu, of := h.of, el := ?_, pl := ?_, eL := fun e he => ?_, pL := fun p hp => ?_, pb := fun p hp => ?_ }
  · rcases q with q | q | q
    · exact h.bf.out q
    · exact h.g1 q
    · exact h.g2 q
  · rcases sn.k gb q with q | q
    · exact h.g1 q
    · omega
  · rcases sn.p gb q with q | q
    · exact h.g2 q
    · omega
  · rcases sn.g p hp with r | r
    · exact h.g3 p r q
    · omega
  · have := sn.n; have := h.el; omega
  · have := sn.m; have := h.pl; omega
  · rcases sn.e e he with r | r
    · exact h.eL e r
    · exact r
  · rcases sn.l p hp with r | r
    · exact h.pL p r
    · exact r
  · rcases sn.g p hp with r | r
    · exact h.pb p r
    · have := h.lk.O.B.size; omega
set_option maxHeartbeats 8000000 in
theorem owns_any (n : Int) (ao : Option Addr) (m c : Nat) (ws : List Stp) (at_ : Int) (w : World) (_hn : -9223372036854775808 ≤ n ∧ n ≤ 9223372036854775807) (hm : m ≤ 140737488351232) (hL : WLies w ao m c ws) (_ha : -9223372036854775808 ≤ at_ ∧ at_ ≤ 9223372036854775807) :
    Calls Try.prog 4 #[.int .i64 n, .slice ao m c, .int .i64 at_] w fun e w' => e = .returned (.bool true) ∧ Below w.heap.size w w' := by
  obtain ⟨i0, hi, hz0, hz1, hz2⟩ := info_parts Try.info5
  have hmi : (m : Int) ≤ 140737488351232 := by omega
  have hwl := hL.hlen
  have hn2 : -8 < n.tmod 8 ∧ n.tmod 8 < 8 := by
    have : (n.tmod 8).natAbs < 8 := by rw [Int.natAbs_tmod]; exact Nat.mod_lt _ (by decide)
    omega
  have ha2 : -7 < at_.tmod 7 ∧ at_.tmod 7 < 7 := by
    have : (at_.tmod 7).natAbs < 7 := by rw [Int.natAbs_tmod]; exact Nat.mod_lt _ (by decide)
    omega
  obtain ⟨k, hk⟩ : ∃ k : Nat, 1 + (n.tmod 8 + 8) % 8 = (k : Int) := ⟨(1 + (n.tmod 8 + 8) % 8).toNat, by omega⟩
  have hk' : 1 + n.tmod 8 % 8 = (k : Int) := by omega
  have hk1 : 1 ≤ k := by omega
  have hk2 : k ≤ 8 := by omega
  obtain ⟨A, hA⟩ : ∃ A : Nat, 1 + (at_.tmod 7 + 7) % 7 = (A : Int) := ⟨(1 + (at_.tmod 7 + 7) % 7).toNat, by omega⟩
  have hA' : 1 + at_.tmod 7 % 7 = (A : Int) := by omega
  have hA1 : 1 ≤ A := by omega
  have hA2 : A ≤ 7 := by omega
  go_enter Try.func4, Try.ntmps4
  go_wp2_with fail
  refine (known_any _).mono ?_
  rintro e w1 ⟨rfl, B1⟩
  go_wp2_with fail
  refine (new_good k _ hk1 (by omega)).mono ?_
  rintro e w2 ⟨d, rfl, Dd, b2⟩
  have h2 := On.new B1 Dd b2
  clear Dd b2
  generalize grow (fun _ => False) w1 w2 = F at *
  obtain ⟨W, hW⟩ : ∃ W, w2.alloc (.cells #[.slice none 0 0, .slice none 0 0] 52) = W := ⟨_, rfl⟩
  have bW : Below w2.heap.size w2 W := by rw [← hW]; exact (Below.refl _ w2).alloc (Nat.le_refl _) _
  have hbx : W.heap[w2.heap.size]? = some (.cells #[.slice none 0 0, .slice none 0 0] 52) := by rw [← hW]; exact (MapKept.heap_alloc w2 _).1
  have hsW : W.heap.size = w2.heap.size + 1 := by rw [← hW]; simp
  obtain ⟨V, hV⟩ : ∃ V, W.alloc (.cells (madeCells #[.int .u8 0] 512) 5) = V := ⟨_, rfl⟩
  have bV : Below W.heap.size W V := by rw [← hV]; exact (Below.refl _ W).alloc (Nat.le_refl _) _
  have hzV : V.heap[W.heap.size]? = some (bl (List.replicate 512 0)) := by rw [← hV]; exact zeros_bl W 512
  have hbx2 := (bV.block _ (by omega)).trans hbx
  have hF2 := h2.D.lt
  have O0 : Ow w V d (fresh (List.replicate (512 * k) 0)) k 0 F w2.heap.size W.heap.size (fun i => i = w2.heap.size) (.slice none 0 0) (.slice none 0 0) (.slice none 0 0) [] [] 0 :=
    { lk :=
        { O := (h2.below bW).below bV
          H := ⟨hbx2, ⟨rfl, Or.inl ⟨rfl, rfl⟩⟩, ⟨rfl, Or.inl ⟨rfl, rfl⟩⟩, (fun b e => by cases e), (fun b e => by cases e), (fun b e => by cases e), rfl, (fun e he => by cases he), (fun e he => by cases he), (fun e he => by cases he), (fun e he => by cases he), List.nodup_nil⟩
          P := ⟨⟨rfl, Or.inl ⟨rfl, rfl⟩⟩, (fun p hp => by cases hp), List.nodup_nil⟩
          kF := fun i e q => by have := hF2 i q; omega
          kl := fun i e => by have := h2.B.size; have := heap_lt hbx2; omega
          pF := fun b e => by cases e
          gF := fun p hp => by cases hp }
      bf := ⟨⟨_, hzV, by simp⟩, fun q => by have := hF2 _ q; omega⟩
      g0 := by have := h2.B.size; omega
      g1 := fun e => by omega
      g2 := fun e => by cases e
      g3 := fun p hp => by cases hp
      fu := rfl
      of := rfl
      el := Nat.le_refl _
      pl := rfl
      eL := fun e he => by cases he
      pL := fun e he => by cases he
      pb := fun e he => by cases he }
  clear hbx2 bV bW hbx h2 hF2 B1
  generalize fresh (List.replicate (512 * k) 0) = S0 at *
  go_wp2_with (at_make; (refine wpList_make_row _ rfl _ _ 29 rfl 5 i0 (.int .u8 0) Try.underlying29 hi hz0 hz1 rfl _ _ 512 rfl rfl (by rw [hz2]; omega) (by omega) ?_))
  try rw [hW]
  try rw [hV]
  obtain ⟨hb, hhb⟩ : ∃ hb, w2.heap.size = hb := ⟨_, rfl⟩
  obtain ⟨gb, hgb⟩ : ∃ gb, W.heap.size = gb := ⟨_, rfl⟩
  rw [hhb, hgb] at O0
  try rw [hhb]
  try rw [hgb]
  obtain rfl : gb = hb + 1 := by omega
  clear hW hV hzV hsW
  go_wp2_with fail
  simp only [Int.add_emod_right]
  go_loopw [10, 12, 13] (fun pv lk i wr => ∃ (j L : Nat) (S : DevS) (N : Nat) (F K : Nat → Prop) (vL vW : Value) (es : List It) (ps : List (Nat × Nat)), j ≤ 60 ∧ j ≤ m ∧ i = .int .i64 j ∧ L ≤ 5 ∧ lk = .int .i64 L ∧ N ≤ j ∧ Ow w wr d S k N F hb (hb + 1) K vL vW pv es ps L) (fun _ _ i _ => 60 - (intOf i).toNat)
  case atStart => exact ⟨0, 0, _, 0, _, _, _, _, _, _, Nat.zero_le _, Nat.zero_le _, rfl, Nat.zero_le _, rfl, Nat.zero_le _, O0⟩
  case round =>
    clear O0
    obtain ⟨j, L, S, N, F, K, vL, vW, es, ps, hj, hjm, rfl, hL5, rfl, hN, h⟩ := hrel
    by_cases hlt : j < m ∧ j < 60
    · obtain ⟨hlt1, hlt2⟩ := hlt
      have hji : (j : Int) < m := by omega
      have hji2 : (j : Int) < 60 := by omega
      obtain ⟨s, hs'⟩ : ∃ s, ws[j]? = some s := ⟨_, List.getElem?_eq_getElem (by omega)⟩
      obtain ⟨hsx, g, o, hao, p0, p1, p2⟩ := hL.hcells j s hs'
      subst hao
      have hglt : g < w.heap.size := World.block_lt_of_cell? _ _ p1
      have hpl := (placeN_bd s.b k hk1).1
      have HO : Hid (∀ (w' : World) (N' : Nat), Dev w' d 0 (stpS k S s) k N' (grow F wr w') → Bf w' (hb + 1) (grow F wr w') → Turns (fun i => F i ∨ i = hb + 1) wr w' → Ow w w' d (stpS k S s) k N' (grow F wr w') hb (hb + 1) K vL vW u10 es ps L) := fun w' N' D b t => h.wrote s D b t
      obtain ⟨sb, sx, sf⟩ := s
      simp only at hsx p0 p1 p2 hpl
      have r0 := (h.lk.O.B.cell (p := ⟨g, o + j * 3, none⟩) hglt).trans p0
      have r1 := (h.lk.O.B.cell (p := ⟨g, o + j * 3 + 1, none⟩) hglt).trans p1
      have r2 := (h.lk.O.B.cell (p := ⟨g, o + j * 3 + 2, none⟩) hglt).trans p2
      clear hs'
      go_wp2_with fail

      refine (writes_any h.lk.O.D h.bf h.fu h.of hk1 (by omega) (by omega) sb sx sf hsx).mono ?_
      rintro e w5 ⟨rfl, N5, hN5, D5, b5, t5⟩
      have h5 := HO.out w5 N5 D5 b5 t5
      clear HO D5 b5 t5 r0 r1 r2 h
      generalize grow F wr w5 = F5 at *
      generalize stpS k S ⟨sb, sx, sf⟩ = S5 at *
      have q0 := (h5.lk.O.B.cell (p := ⟨g, o + j * 3, none⟩) hglt).trans p0
      have htm : (j : Int).tmod A = ((j % A : Nat) : Int) := by rw [Int.tmod_eq_emod_of_nonneg (by omega)]; rfl
      have hAi : (A : Int) ≠ 0 := by omega
      by_cases hc : j % A = 0
      · have hci : ((j % A : Nat) : Int) = 0 := by omega
        by_cases hL6 : L < 5
        · have hLi : (L : Int) < 5 := by omega
          have hel := h5.el
          have hpl5 := h5.pl
          go_wp2_with fail
          refine (place_law sb k hk1 (by omega) _).mono ?_
          rintro e wn ⟨rfl, hwn⟩
          subst wn
          go_wp2_with fail
          refine (looks_h h5.lk h5.of hk2 (by omega) (placeN sb k) hpl (by omega) (by omega)).mono ?_
          rintro e w6 ⟨K6, vL6, vW6, pv6, es6, ps6, rfl, lk6, sn6⟩
          have h6 := h5.looked lk6 sn6
          clear h5 lk6 sn6 hel hpl5 q0
          go_wp2_with fail
          go_roundw
          case rel =>
            first
            | exact ⟨j + 1, L + 1, _, N5, F5, K6, vL6, vW6, es6, ps6, by omega, by omega, by go_num, by omega, by go_num, by omega, h6⟩
            | ((repeat apply Exists.intro); refine And.intro ?_ rfl; exact ⟨j + 1, L + 1, _, N5, F5, K6, vL6, vW6, es6, ps6, by omega, by omega, by go_num, by omega, by go_num, by omega, h6⟩)
          case measure => simp [intOf]; omega
        · have hLi : ¬ (L : Int) < 5 := by omega
          go_wp2_with fail
          go_roundw
          case rel =>
            first
            | exact ⟨j + 1, L, _, N5, F5, K, vL, vW, es, ps, by omega, by omega, by go_num, hL5, rfl, by omega, h5⟩
            | ((repeat apply Exists.intro); refine And.intro ?_ rfl; exact ⟨j + 1, L, _, N5, F5, K, vL, vW, es, ps, by omega, by omega, by go_num, hL5, rfl, by omega, h5⟩)
          case measure => simp [intOf]; omega
      · have hci : ((j % A : Nat) : Int) ≠ 0 := by omega
        go_wp2_with fail
        go_roundw
        case rel =>
          first
          | exact ⟨j + 1, L, _, N5, F5, K, vL, vW, es, ps, by omega, by omega, by go_num, hL5, rfl, by omega, h5⟩
          | ((repeat apply Exists.intro); refine And.intro ?_ rfl; exact ⟨j + 1, L, _, N5, F5, K, vL, vW, es, ps, by omega, by omega, by go_num, hL5, rfl, by omega, h5⟩)
        case measure => simp [intOf]; omega
    · have hel := h.el
      have hpl := h.pl
      have hgood := h.lk.O.D.good
      have hpn := h.lk.O.pn
      obtain ⟨M, hM⟩ : ∃ M, S.pend.length = M := ⟨_, rfl⟩
      have h1i : ¬ ((j : Int) < m ∧ (j : Int) < 60) := by omega
      have h2i : j < m → ¬ (j : Int) < 60 := by omega
      have hMi : (M : Int) ≤ 60 := by omega
      have hpd : ∀ p ∈ S.pend, p.2.length = 512 := fun p hp => (hgood.pend p hp).2.1
      by_cases h1 : j < m
      all_goals
        go_wp2_with fail
        refine (durable_any h.lk.O.D).mono ?_
        rintro e w3 ⟨⟨g3, rfl, l3, b3⟩, q3⟩
        have L3 := h.lk.same q3
        have s3 := q3.2.size
        have lt3 := heap_lt b3
        go_wp2_with fail
        refine (pending_any L3.O.D (by omega)).mono ?_
        rintro e w4 ⟨⟨G4, gs4, rfl, P4, lG4, lgs4⟩, q4⟩
        have L4 := L3.same q4
        have fr : ∀ g, wr.heap.size ≤ g → ¬ F g ∧ ¬ K g ∧ ∀ p ∈ ps, p.1 ≠ g := fun g hg => ⟨(h.lk.fresh hg).2.1, (h.lk.fresh hg).2.2.1, (h.lk.fresh hg).2.2.2.2⟩
        have b4 := (q4.2.block g3 lt3 (fr g3 l3).1).trans b3
        have s4 := q4.2.size
        have hG4 : wr.heap.size ≤ G4 := by omega
        have hg4 : ∀ g ∈ gs4, wr.heap.size ≤ g := fun g hg => by have := lgs4 g hg; omega
        have heL := h.eL
        have hpL := h.pL
        clear b3 q3 q4 L3 lG4 lgs4
        go_wp2_with fail
        refine (whole_h L4.H (by omega) (fun e he => by have := heL e he; omega)).mono ?_
        rintro e w5 ⟨rfl, B5⟩
        have L5 := L4.below B5
        have T5 := Below.turns B5 (fun _ => False)
        have b5 := (T5.block g3 (heap_lt b4) id).trans b4
        have P5 := P4.turns T5 id (fun _ _ => id)
        clear L4 b4 P4 T5 B5
        go_wp2_with fail
        refine (apart_h L5.H L5.O.B.size (fun e he => (L5.kl _ (L5.H.kg e he)).1) (by omega) (fun e he => by have := heL e he; omega)).mono ?_
        rintro e w6 ⟨rfl, T6⟩
        have hK6 : ∀ i, (∃ e ∈ es, e.g = i) → K i := fun i ⟨e, he, r⟩ => r ▸ L5.H.kg e he
        have O6 : On w w6 d S k N F := ⟨L5.O.D.turns T6 (fun i hi r => L5.kF i (hK6 i r) hi), L5.O.hF, L5.O.B.trans (T6.below (fun i r => (L5.kl i (hK6 i r)).1) L5.O.B.size)⟩
        have Q6 := L5.P.turns T6 (fun b e r => (L5.pF b e).2 (hK6 b r)) (fun p hp r => (L5.gF p hp).2 (hK6 p.1 r))
        have b6 := (T6.block g3 (heap_lt b5) (fun r => (fr g3 l3).2.1 (hK6 g3 r))).trans b5
        have P6 := P5.turns T6 (fun r => (fr G4 hG4).2.1 (hK6 G4 r)) (fun g hg r => (fr g (hg4 g hg)).2.1 (hK6 g r))
        have hgF := L5.gF
        have hpb : ∀ p ∈ ps, w.heap.size ≤ p.1 := fun p hp => by
          have := h.pb p hp
          exact this
        clear L5 T6 b5 P5
        go_wp2_with fail
        refine (apartPending_h Q6 O6.B.size hpb (by omega) (fun p hp => by have := hpL p hp; omega)).mono ?_
        rintro e w7 ⟨rfl, T7⟩
        have hT7 : ∀ i, (∃ p ∈ ps, p.1 = i) → ¬ F i := fun i ⟨p, hp, r⟩ => r ▸ (hgF p hp).1
        have O7 : On w w7 d S k N F := ⟨O6.D.turns T7 (fun i hi r => hT7 i r hi), O6.hF, O6.B.trans (T7.below (fun i ⟨p, hp, r⟩ => r ▸ hpb p hp) O6.B.size)⟩
        have nT7 : ∀ g, wr.heap.size ≤ g → ¬ ∃ p ∈ ps, p.1 = g := fun g hg ⟨p, hp, r⟩ => (fr g hg).2.2 p hp r
        have b7 := (T7.block g3 (heap_lt b6) (nT7 g3 l3)).trans b6
        have P7 := P6.turns T7 (nT7 G4 hG4) (fun g hg => nT7 g (hg4 g hg))
        clear O6 Q6 b6 P6 T7
        go_wp2_with fail
        refine (durable_any O7.D).mono ?_
        rintro e w8 ⟨⟨g8, rfl, l8, b8⟩, q8⟩
        have O8 := O7.same q8
        have c8 := (q8.2.block g3 (heap_lt b7) (fr g3 l3).1).trans b7
        have P8 := P7.turns q8.2 (fr G4 hG4).1 (fun g hg => (fr g (hg4 g hg)).1)
        clear O7 q8 b7 P7
        go_wp2_with fail
        refine (same_true (some ⟨g8, 0, none⟩) (some ⟨g3, 0, none⟩) (512 * k) (512 * k) (512 * k) (512 * k) S.last w8 (by omega) (Lies.full b8 hgood.len) (Lies.full c8 hgood.len)).mono ?_
        rintro e w9 ⟨rfl, t9, rfl⟩
        have O9 := O8.below (Below.drewN (Below.refl _ w8) t9)
        have P9 := P8.turns (Turns.drewN (fun _ => False) w8 t9) id (fun _ _ => id)
        clear O8 P8 b8 c8
        go_wp2_with fail
        refine (pending_any O9.D (by omega)).mono ?_
        rintro e wA ⟨⟨GA, gsA, rfl, PA, lGA, lgsA⟩, qA⟩
        have OA := O9.same qA
        have PB := P9.turns qA.2 (fr G4 hG4).1 (fun g hg => (fr g (hg4 g hg)).1)
        rw [hM]
        clear O9 P9 qA
        go_wp2_with fail
        refine (samePend_any (some ⟨GA, 0, none⟩) (some ⟨G4, 0, none⟩) M M M S.pend S.pend wA (by omega) (PA.read hM hpd) (PB.read hM hpd)).mono ?_
        rintro e wB ⟨rfl, tB, rfl⟩
        have OB := Below.drewN OA.B tB
        clear PA PB OA
        go_wp2
        go_ret
        exact ⟨by simp, OB⟩
end Go.Proofs.Ytkffnbcfmaoldab
