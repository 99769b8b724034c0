/- annexlaw5.DeviceReads by its walk. -/
import Derived.Test.YtkffnbcfmaoldabMC
import Derived.Test.YtkffnbcfmaoldabDView
namespace Go.Proofs.Ytkffnbcfmaoldab
open Go.RowKit Go.Maps
set_option maxRecDepth 100000

theorem Now.mono {B B' : Nat} {w : World} {v : Value} {k : Nat} {gs : List Nat} {f : Nat → List Int} (h : Now B w v k gs f) (e : B' ≤ B) : Now B' w v k gs f := ⟨ownsRow_mono h.row e, h.len, h.dat, h.out⟩
theorem rd_zero (k b : Nat) (hb : b < k) : rdB (fresh (List.replicate (512 * k) 0)) b = List.replicate 512 0 := by
  show ((List.replicate (512 * k) (0 : Int)).drop (512 * b)).take 512 = _
  rw [List.drop_replicate, List.take_replicate]
  congr 1
  omega
theorem Now.store {B : Nat} {w : World} {g cap : Nat} {k : Nat} {gs : List Nat} {f : Nat → List Int} (h : Now B w (.slice (some ⟨g, 0, none⟩) k cap) k gs f) (i : Nat) : w.frozen? ⟨g, i, none⟩ = false := by
  rcases h.row.2 with ⟨e, _⟩ | ⟨g', cap', cur, e, h0, hg, _⟩
  · cases e
  · cases e
    simp [World.frozen?, hg]
theorem Wts.read {B : Nat} {w : World} {ao : Option Addr} {n c : Nat} {hs : List Nat} {ps : List (Nat × List Int)} (h : Wts B w (.slice ao n c) hs ps) (hn : ps.length = n) (hd : ∀ p ∈ ps, p.2.length = 512) : PRead w ao n ps :=
  ⟨hn, fun j p hp => by
    have hj := (List.getElem?_eq_some_iff.1 hp).1
    have hg : hs[j]? = some (hs[j]'(by rw [h.len]; exact hj)) := List.getElem?_eq_getElem _
    obtain ⟨e1, e2⟩ := pc_at _ _ j p _ hp hg
    rcases h.row.2 with ⟨e, e0⟩ | ⟨g, cap, cur, e, h0, hgb, h1, h2, h3, h4⟩
    · omega
    · cases e
      have q : ∀ (i : Nat) v, (pc ps hs)[i]? = some v → w.cell? ⟨g, i, none⟩ = some v := fun i v hq => by
        rw [← h4, List.getElem?_take] at hq
        split at hq
        · simp only [World.cell?, hgb]; simpa using hq
        · cases hq
      exact ⟨g, _, 512, 512, rfl, q _ _ e1, q _ _ e2, Lies.full (h.dat j p _ hp hg) (hd p (List.mem_of_getElem? hp)), by omega⟩⟩
set_option maxHeartbeats 8000000 in
theorem reads_any (n : Int) (ao : Option Addr) (m c : Nat) (ws : List Stp) (w : World) (_hn : -9223372036854775808 ≤ n ∧ n ≤ 9223372036854775807) (hm : m ≤ 140737488351232) (hL : WLies w ao m c ws) :
    Calls Try.prog 3 #[.int .i64 n, .slice ao m c] w fun e w' => e = .returned (.bool true) ∧ Below w.heap.size w w' := by
  obtain ⟨j0, ji, jz0, jz1, jz2⟩ := info_parts Try.info41
  have hmi : (m : Int) ≤ 140737488351232 := by omega
  have hwl := hL.hlen
  have hk1 := (sizeN_bd n).1
  have hk2 := (sizeN_bd n).2.1
  go_enter Try.func3, Try.ntmps3
  go_wp2_with fail
  refine (known_any _).mono ?_
  rintro e w1 ⟨rfl, B1⟩
  go_wp2_with fail
  refine (size_law n _).mono ?_
  rintro e wn ⟨rfl, hwn⟩
  subst wn
  generalize sizeN n = k at *
  have hki : (k : Int) ≤ 64 := by omega
  have hki1 : (1 : Int) ≤ k := by omega
  go_wp2_with fail
  refine (new_good k _ hk1 (by omega)).mono ?_
  rintro e w2 ⟨d, rfl, Dd, b2⟩
  have h2 := On.new B1 Dd b2
  clear Dd b2
  generalize grow (fun _ => False) w1 w2 = F at *
  go_wp2_with fail
  refine (zeros_any k hk2 _).mono ?_
  rintro e w3 ⟨na, nc, gs, rfl, N3, hgs3, b3⟩
  obtain ⟨ng, nc', x3, e3, _, _, _⟩ := N3.at_ (i := 0) (by omega)
  cases e3
  go_wp2_with fail
  refine (flat_any N3 hk2 (fun b hb => by simp)).mono ?_
  rintro e w4 ⟨sa, sc, rfl, o4, b4⟩
  have hfl : flatL (fun _ => List.replicate 512 (0 : Int)) k = (fresh (List.replicate (512 * k) 0)).last := by
    have q := flat_blk (List.replicate (512 * k) 0) k (by simp)
    refine Eq.trans ?_ q
    exact flatL_congr k (fun b hb => (rd_zero k b hb).symm)
  rw [hfl] at o4
  have hs2 := h2.B.size
  have hs3 := b3.size
  have hnw2 : w2.heap.size ≤ ng := (N3.row.lt ng rfl).1
  have hnw3 : ng < w3.heap.size := (N3.row.lt ng rfl).2
  have hS4 : St w w4 d (fresh (List.replicate (512 * k) 0)) k 0 F (.slice (some ⟨ng, 0, none⟩) k nc) (.slice sa (512 * k) sc) (.slice none 0 0) gs [] (rdB (fresh (List.replicate (512 * k) 0))) (fresh (List.replicate (512 * k) 0)).last [] :=
    { O := (h2.below b3).below b4
      nw := ((N3.mono hs2).below b4).congr (fun b hb => (rd_zero k b hb).symm)
      sf := ownsRow_mono o4 (by omega)
      wt := Wts.nil _ _
      n1 := fun i e q => by have := h2.D.lt i q; obtain rfl : ng = i := by simpa [Value.ownBlock] using e
                            omega
      n2 := fun g hg q => by have := h2.D.lt g q; have := hgs3 g hg; omega
      s1 := fun i e q => by have := h2.D.lt i q; have := (o4.lt i e).1; omega
      w1 := fun i e => by cases e
      w2 := fun i e => by cases e
      a1 := fun i e q => by have := (o4.lt i q).1; obtain rfl : ng = i := by simpa [Value.ownBlock] using e
                            omega
      a2 := fun i e q => by cases q
      a3 := fun i e q => by cases q
      a4 := fun i e => by cases e
      a5 := fun i e => by cases e }
  clear N3 hgs3 b3 o4 b4 h2 hfl B1 hs2 hs3 hnw2 hnw3
  have hT0 : (fresh (List.replicate (512 * k) 0)).fuse = 0 ∧ (fresh (List.replicate (512 * k) 0)).off = false ∧ [] = (fresh (List.replicate (512 * k) 0)).pend := ⟨rfl, rfl, rfl⟩
  generalize fresh (List.replicate (512 * k) 0) = T0 at *
  go_wp2_with fail
  go_loopw [8, 9, 10] (fun sv wv i wr => ∃ (j : Nat) (S : DevS) (N : Nat) (F : Nat → Prop) (gs hs : List Nat), j ≤ 400 ∧ j ≤ m ∧ i = .int .i64 j ∧ St w wr d S k N F (.slice (some ⟨ng, 0, none⟩) k nc) sv wv gs hs (rdB S) S.last S.pend ∧ S.fuse = 0 ∧ S.off = false ∧ N ≤ j) (fun _ _ i _ => 400 - (intOf i).toNat)
  case atStart => exact ⟨0, T0, 0, F, gs, [], Nat.zero_le _, Nat.zero_le _, rfl, by rw [← hT0.2.2]; exact hS4, hT0.1, hT0.2.1, Nat.zero_le _⟩
  case round =>
    clear hS4 hT0
    obtain ⟨j, S, N, F, gs, hs, hj, hjm, rfl, h, hSf, hSo, hN⟩ := hrel
    by_cases hlt : j < m ∧ j < 400
    · obtain ⟨hlt1, hlt2⟩ := hlt
      have hji : (j : Int) < m := by omega
      have hji2 : (j : Int) < 400 := by omega
      obtain ⟨s, hs'⟩ : ∃ s, ws[j]? = some s := ⟨_, List.getElem?_eq_getElem (by omega)⟩
      obtain ⟨hsx, g, o, hao, p0, p1, p2⟩ := hL.hcells j s hs'
      subst hao
      have hglt : g < w.heap.size := World.block_lt_of_cell? _ _ p1
      have hpl := (placeN_bd s.b k hk1).1
      obtain ⟨sb, sx, sf⟩ := s
      simp only at hsx p0 p1 p2 hpl
      have r0 := (h.O.B.cell (p := ⟨g, o + j * 3, none⟩) hglt).trans p0
      have r1 := (h.O.B.cell (p := ⟨g, o + j * 3 + 1, none⟩) hglt).trans p1
      have r2 := (h.O.B.cell (p := ⟨g, o + j * 3 + 2, none⟩) hglt).trans p2
      clear hs'
      go_wp2_with fail
      refine (place_law _ k hk1 (by omega) _).mono ?_
      rintro e wn ⟨rfl, hwn⟩
      subst wn
      obtain ⟨b, hb⟩ : ∃ b, placeN sb k = b := ⟨_, rfl⟩
      rw [hb] at hpl ⊢
      have hbi : (b : Int) < k := by omega
      clear hb
      cases sf with
      | true =>
        have hgood := h.O.D.good
        go_wp2_with fail
        refine (flush_on h.O.D hSf hSo (by omega)).mono ?_
        rintro e w5 ⟨rfl, D5, t5⟩
        have h5 := h.went ⟨D5, t5⟩
        clear h D5 t5 r0 r1 r2
        go_wp2_with (go_at_call 13; refine (num_id _ _).mono ?_; rintro e wn ⟨rfl, hwn⟩; subst wn)
        refine (flat_any h5.nw hk2 (fun b hb => rdB_len hgood hb)).mono ?_
        rintro e w6 ⟨sa6, sc6, rfl, o6, b6⟩
        rw [flat_rd hgood] at o6
        have h6 : St w w6 d (flushed S) k N _ _ _ _ gs [] (rdB (flushed S)) (flushed S).last (flushed S).pend := (h5.flat o6 b6).congr (fun b _ => (rdB_flushed hgood b).symm)
        clear h5 o6 b6 hgood
        go_wp2_with fail
        have hSo' : (flushed S).off = false := hSo
        have hSf' : (flushed S).fuse = 0 := hSf
        obtain ⟨xq, hxq⟩ : ∃ x, (gs)[b]? = some x := ⟨_, List.getElem?_eq_getElem (by rw [h6.nw.len]; exact hpl)⟩
        refine (read_on h6.O.D hSo' b hpl).mono ?_
        rintro e wA ⟨gA, rfl, oA, DA, tA, _⟩
        have hA := h6.same ⟨DA, tA⟩
        have cA := hA.nw.cell hxq
        have lA := hA.nw.dat b xq hxq
        have hrl := rdB_len DA.good hpl
        clear h6 DA tA
        go_wp2_with fail
        refine (same_true _ _ 512 512 512 512 (rdB (flushed S) b) _ (by omega) (oA.lies hrl) (Lies.full lA hrl)).mono ?_
        rintro e wB ⟨rfl, tB, rfl⟩
        have hB := hA.below (Below.drewN (Below.refl _ wA) tB)
        clear hA cA lA oA hrl
        generalize wA.drewN tB = wB at *
        go_wp2_with (go_at_call 13; refine (num_id _ _).mono ?_; rintro e wn ⟨rfl, hwn⟩; subst wn)
        go_roundw
        case rel =>
          first
          | exact ⟨j + 1, flushed S, _, _, _, _, by omega, by omega, by go_num, hB, hSf', hSo', by omega⟩
          | ((repeat apply Exists.intro); exact And.intro ⟨j + 1, flushed S, _, _, _, _, by omega, by omega, by go_num, hB, hSf', hSo', by omega⟩ rfl)
        case measure => simp [intOf]; omega
      | false =>
        have hpn := h.O.pn
        go_wp2_with fail
        refine (full_on h.O.D.lt sx).mono ?_
        rintro e w5 ⟨g5, rfl, o5, b5, _⟩
        have h5 := h.below b5
        clear h b5 r0 r1 r2
        go_wp2_with fail
        refine (write_on h5.O.D hSf hSo b hpl g5 _ o5 (by simp) (fullD sx hsx) (by omega)).mono ?_
        rintro e w6 ⟨rfl, D6, t6⟩
        have h6 := h5.went ⟨D6, t6⟩
        have r6 := (h6.O.B.cell (p := ⟨g, o + j * 3 + 1, none⟩) hglt).trans p1
        clear h5 D6 t6 o5
        generalize grow F w5 w6 = F6 at *
        go_wp2_with (go_at_call 13; refine (num_id _ _).mono ?_; rintro e wn ⟨rfl, hwn⟩; subst wn)
        refine (full_any sx _).mono ?_
        rintro e w7 ⟨g7, rfl, hg7, hb7, b7⟩
        have h7 := h6.below b7
        obtain ⟨x7, hx7⟩ : ∃ x, gs[b]? = some x := ⟨_, List.getElem?_eq_getElem (by rw [h7.nw.len]; exact hpl)⟩
        have c7 := h7.nw.cell hx7
        have f7 := h7.nw.store b
        have hng6 := (h6.nw.row.lt ng rfl).2
        have h8 := h7.set b g7 hpl _ hb7 (by omega) (fun q => by have := h6.O.D.lt _ q; omega) (fun q => by have := (h6.wt.row.lt _ q).2; omega)
        have r8 := (h8.O.B.cell (p := ⟨g, o + j * 3 + 1, none⟩) hglt).trans p1
        clear h6 h7 hb7 b7 hx7 r6
        go_wp2_with fail
        refine (full_any sx _).mono ?_
        rintro e w9 ⟨g9, rfl, hg9, hb9, b9⟩
        have h9 := h8.below b9
        have hx1 := fun q => Nat.not_lt.2 hg9 (h8.wt.row.lt g9 q).2
        have hx2 := fun q => Nat.not_lt.2 hg9 (h8.O.D.lt g9 q)
        have hx3 := fun q => Nat.not_lt.2 hg9 (h8.nw.row.lt g9 q).2
        have hrow := h9.wt.row
        have hsz := h9.O.B.size
        obtain ⟨pa, pcp, hpv⟩ := row_slice hrow
        have HH : Hid _ := h9
        clear h8 b9 r8 c7 f7 h9
        obtain ⟨L, hL'⟩ : ∃ L, S.pend.length = L := ⟨_, rfl⟩
        have HL : Hid (S.pend.length = L) := hL'
        rw [hL'] at hpv hrow hpn
        clear hL'
        subst hpv
        go_wp2_with (at_builtin; refine wpList_append_own_at _ rfl (.tmp 85) (.tmp 94) 31 rfl w.heap.size 41 j0 (.agg #[.int .i64 0, .slice none 0 0]) 2 32 Try.underlying31 ji jz0 jz1 jz2 rfl (by decide) _ L _ rfl (hrow.alloc _) ⟨w9.heap.size, 0, none⟩ 1 1 [.int .i64 b, hv g9] rfl rfl (cell_two_new _ _ _ _) (by intro u hu; simp at hu; rcases hu with rfl | rfl <;> rfl) (by unfold maxLen; omega) (by omega) (by simp; omega) ?_; intro v' wC hownC hgrowC hnilC hatC)
        have hC : St w wC d (wrote S b (List.replicate 512 sx)) k (N + 1) F6 _ _ v' (gs.set b g7) (hs ++ [g9]) (rdB (wrote S b (List.replicate 512 sx))) (wrote S b (List.replicate 512 sx)).last (wrote S b (List.replicate 512 sx)).pend :=
          (HH.out.add b g9 _ hb9 hx1 hx2 hx3 ((Turns.alloc _ w9 _).trans (Turns.grown (F := fun i => (Value.slice pa L pcp).ownBlock = some i) hgrowC (fun b hb => hb)) (fun _ _ h => h)) (HL.out ▸ hownC) (hatC.imp id (fun e => ⟨_, e, by simp⟩))).congr (fun y _ => (rdB_wrote S b _ y).symm)
        clear HH hrow hownC
        have hSo' : (wrote S b (List.replicate 512 sx)).off = false := hSo
        have hSf' : (wrote S b (List.replicate 512 sx)).fuse = 0 := hSf
        obtain ⟨xq, hxq⟩ : ∃ x, (gs.set b g7)[b]? = some x := ⟨_, List.getElem?_eq_getElem (by rw [hC.nw.len]; exact hpl)⟩
        refine (read_on hC.O.D hSo' b hpl).mono ?_
        rintro e wA ⟨gA, rfl, oA, DA, tA, _⟩
        have hA := hC.same ⟨DA, tA⟩
        have cA := hA.nw.cell hxq
        have lA := hA.nw.dat b xq hxq
        have hrl := rdB_len DA.good hpl
        clear hC DA tA
        go_wp2_with fail
        refine (same_true _ _ 512 512 512 512 (rdB (wrote S b (List.replicate 512 sx)) b) _ (by omega) (oA.lies hrl) (Lies.full lA hrl)).mono ?_
        rintro e wB ⟨rfl, tB, rfl⟩
        have hB := hA.below (Below.drewN (Below.refl _ wA) tB)
        clear hA cA lA oA hrl
        generalize wA.drewN tB = wB at *
        go_wp2_with (go_at_call 13; refine (num_id _ _).mono ?_; rintro e wn ⟨rfl, hwn⟩; subst wn)
        go_roundw
        case rel =>
          first
          | exact ⟨j + 1, wrote S b (List.replicate 512 sx), _, _, _, _, by omega, by omega, by go_num, hB, hSf', hSo', by omega⟩
          | ((repeat apply Exists.intro); exact And.intro ⟨j + 1, wrote S b (List.replicate 512 sx), _, _, _, _, by omega, by omega, by go_num, hB, hSf', hSo', by omega⟩ rfl)
        case measure => simp [intOf]; omega
    · have hpn := h.O.pn
      have hgood := h.O.D.good
      clear hL
      by_cases hjm2 : (j : Int) < m
      all_goals (
        try (have hj3 : ¬ (j : Int) < 400 := by omega)
        go_wp2_with fail
        refine (sameAll_any h.nw hk2 h.O.D hSo h.n1 h.n2).mono ?_
        rintro e w5 ⟨rfl, q5⟩
        have h5 := h.same q5
        clear h q5
        go_wp2_with fail
        refine (durable_on h5.O.D).mono ?_
        rintro e w6 ⟨g6, rfl, o6, D6, t6, _⟩
        have h6 := h5.same ⟨D6, t6⟩
        clear h5 D6 t6
        obtain ⟨sa, sc, hsv⟩ := own_len h6.sf
        subst hsv
        go_wp2_with fail
        refine (same_true _ _ (512 * k) (512 * k) (512 * k) sc S.last _ (by omega) (o6.lies hgood.len) (Lies.owned h6.sf)).mono ?_
        rintro e w7 ⟨rfl, t7, rfl⟩
        have h7 := h6.below (Below.drewN (Below.refl _ w6) t7)
        clear h6 o6
        generalize w6.drewN t7 = w7 at *
        obtain ⟨pa, pcp, hpv⟩ := row_slice h7.wt.row
        subst hpv
        go_wp2_with fail
        refine (pending_any h7.O.D (by omega)).mono ?_
        rintro e w8 ⟨⟨P, ps8, rfl, lP, _, _⟩, q8⟩
        have h8 := h7.same q8
        clear h7 q8
        go_wp2_with fail
        refine (samePend_any _ _ S.pend.length _ _ S.pend S.pend _ (by omega) (lP.read rfl (fun p hp => (hgood.pend p hp).2.1)) (h8.wt.read rfl (fun p hp => (hgood.pend p hp).2.1))).mono ?_
        rintro e w9 ⟨rfl, t9, rfl⟩
        have h9 := h8.below (Below.drewN (Below.refl _ w8) t9)
        clear h8 lP
        generalize w8.drewN t9 = w9 at *
        go_wp2_with fail
        go_ret
        exact ⟨by simp, h9.O.B⟩)
end Go.Proofs.Ytkffnbcfmaoldab
