/- annexlaw5.DeviceAll by its walk. -/
import Derived.Test.YtkffnbcfmaoldaaLF
namespace Go.Proofs.Ytkffnbcfmaoldaa
open Go.RowKit Go.Maps
set_option maxRecDepth 100000

theorem Try.info4 : (Try.prog.info? 4).map (fun i => (i.zero, i.size, i.bytes)) = some (some (.bool false), 1, 1) := by kernel_rfl
/-- What the devices hold behind the first j steps. -/
def allS (k : Nat) (ws : List Stp) (j : Nat) : DevS := { fresh (List.replicate (512 * k) 0) with pend := pw k (ws.take j) }
theorem allS_step (k : Nat) (ws : List Stp) (j : Nat) (s : Stp) (h : ws[j]? = some s) : wrote (allS k ws j) (placeN s.b k) (List.replicate 512 s.x) = allS k ws (j + 1) := by
  unfold allS wrote
  rw [pw_take k ws j s h]
theorem allS_len (k : Nat) (ws : List Stp) (j : Nat) : (allS k ws j).pend.length = min j ws.length := by simp [allS, pw]

set_option maxHeartbeats 8000000 in
theorem all_any (n : Int) (ao : Option Addr) (m c : Nat) (ws : List Stp) (x : Int) (w : World) (_hn : -9223372036854775808 ≤ n ∧ n ≤ 9223372036854775807) (hm : m ≤ 140737488351232) (hL : WLies w ao m c ws) (_hx : -9223372036854775808 ≤ x ∧ x ≤ 9223372036854775807) :
    Calls Try.prog 3 #[.int .i64 n, .slice ao m c, .int .i64 x] w fun e w' => e = .returned (.bool true) ∧ Below w.heap.size w w' := by
  obtain ⟨i0, hi, hz0, hz1, hz2⟩ := info_parts Try.info4
  have hmi : (m : Int) ≤ 140737488351232 := by omega
  have hwl := hL.hlen
  have hk1 := (sizeN_bd n).1
  have hk2 := (sizeN_bd n).2.1
  go_enter Try.func3, Try.ntmps3
  go_wp2_with fail
  refine (known_any _).mono ?_
  rintro e w1 ⟨rfl, B1⟩
  go_wp2_with fail
  refine (size_law n _).mono ?_
  rintro e wn ⟨rfl, hwn⟩
  subst wn
  generalize sizeN n = k at *
  have hki : (k : Int) ≤ 64 := by omega
  have hki1 : (1 : Int) ≤ k := by omega
  go_wp2_with fail
  refine (new_good k _ hk1 (by omega)).mono ?_
  rintro e w2 ⟨d, rfl, Dd, b2⟩
  have hFd : ∀ i, grow (fun _ => False) w1 w2 i → w.heap.size ≤ i := fun i h => h.elim False.elim (fun h => Nat.le_trans B1.size h.1)
  generalize grow (fun _ => False) w1 w2 = F at *
  have B2 := B1.trans (b2.mono B1.size)
  clear b2
  go_wp2_with fail
  refine (new_good k _ hk1 (by omega)).mono ?_
  rintro e w3 ⟨dc, rfl, Dc, b3⟩
  have hFc : ∀ i, grow (fun _ => False) w2 w3 i → w2.heap.size ≤ i := fun i h => h.elim False.elim (fun h => h.1)
  generalize grow (fun _ => False) w2 w3 = G at *
  have hap : ∀ i, F i → ¬ G i := fun i h q => by have := Dd.lt i h; have := hFc i q; omega
  have Dd3 := Dd.below b3
  have B3 := B2.trans (b3.mono B2.size)
  have hGc : ∀ i, G i → w.heap.size ≤ i := fun i h => Nat.le_trans B2.size (hFc i h)
  replace Dd3 : Dev w3 d 0 (allS k ws 0) k 0 F := Dd3
  replace Dc : Dev w3 dc 0 (allS k ws 0) k 0 G := Dc
  clear b3 Dd hFc
  go_wp2_with fail
  go_loopw [10] (fun i wr => ∃ (j : Nat) (F G : Nat → Prop), j ≤ 300 ∧ j ≤ m ∧ i = .int .i64 j ∧ Dev wr d 0 (allS k ws j) k j F ∧ Dev wr dc 0 (allS k ws j) k j G ∧ (∀ i, F i → ¬ G i) ∧ (∀ i, F i → w.heap.size ≤ i) ∧ (∀ i, G i → w.heap.size ≤ i) ∧ Below w.heap.size w wr) (fun i _ => 300 - (intOf i).toNat)
  case atStart => exact ⟨0, F, G, Nat.zero_le _, Nat.zero_le _, rfl, Dd3, Dc, hap, hFd, hGc, B3⟩
  case round =>
    clear Dd3 Dc hap hFd hGc B3
    obtain ⟨j, F, G, hj, hjm, rfl, D1, D2, hap, hF, hG, B⟩ := hrel
    by_cases hlt : j < m ∧ j < 300
    · obtain ⟨hlt1, hlt2⟩ := hlt
      have hji : (j : Int) < m := by omega
      have hji2 : (j : Int) < 300 := by omega
      obtain ⟨s, hs⟩ : ∃ s, ws[j]? = some s := ⟨_, List.getElem?_eq_getElem (by omega)⟩
      obtain ⟨hsx, g, o, hao, p0, p1, _⟩ := hL.hcells j s hs
      subst hao
      have hglt : g < w.heap.size := World.block_lt_of_cell? _ _ p1
      have q0 := (B.cell hglt).trans p0
      have q1 := (B.cell hglt).trans p1
      have hpl := (placeN_bd s.b k hk1).1
      have HS : Hid (wrote (allS k ws j) (placeN s.b k) (List.replicate 512 s.x) = allS k ws (j + 1)) := allS_step k ws j s hs
      have HF0 : Hid ((allS k ws j).fuse = 0 ∧ (allS k ws j).off = false) := ⟨rfl, rfl⟩
      clear hs
      go_wp2_with (go_at_call 12; refine (place_law _ k hk1 (by omega) _).mono ?_; rintro e wn ⟨rfl, hwn⟩; subst wn)
      refine (full_on D1.lt s.x).mono ?_
      rintro e w4 ⟨g4, rfl, o4, b4, _⟩
      have E1 := D1.below b4
      have E2 := D2.below b4
      have B4 := B.trans (b4.mono B.size)
      have hl2 := D2.lt
      clear D1 D2 q0 q1
      go_wp2_with fail
      refine (write_on E1 HF0.out.1 HF0.out.2 (placeN s.b k) hpl g4 _ o4 (by simp) (fullD s.x hsx) (by omega)).mono ?_
      rintro e w5 ⟨rfl, D1, t5⟩
      have E2' := E2.turns t5 (fun i h q => hap i q h)
      have B5 := B4.trans (t5.below hF B4.size)
      have hF5 := grow_below (w' := w5) hF B4.size
      have hap5 := grow_apart (w' := w5) hap E2.lt
      have q2 := (B5.cell hglt).trans p1
      rw [HS.out] at D1
      generalize grow F w4 w5 = F' at *
      clear E1 E2 t5 hap hF
      go_wp2_with fail
      refine (full_on E2'.lt s.x).mono ?_
      rintro e w6 ⟨g6, rfl, o6, b6, _⟩
      have D1' := D1.below b6
      have E6 := E2'.below b6
      have B6 := B5.trans (b6.mono B5.size)
      clear D1 E2' q2
      go_wp2_with fail
      refine (write_on E6 HF0.out.1 HF0.out.2 (placeN s.b k) hpl g6 _ o6 (by simp) (fullD s.x hsx) (by omega)).mono ?_
      rintro e w7 ⟨rfl, D7, t7⟩
      have D17 := D1'.turns t7 hap5
      have B7 := B6.trans (t7.below hG B6.size)
      have hG7 := grow_below (w' := w7) hG B6.size
      have hap7 := grow_apart (w' := w7) (fun i h q => hap5 i q h) D1'.lt
      rw [HS.out] at D7
      generalize grow G w6 w7 = G' at *
      go_wp2_with fail
      go_roundw
      case rel => exact ⟨j + 1, F', G', by omega, by omega, by go_num, D17, D7, fun i h q => hap7 i q h, hF5, hG7, B7⟩
      case measure => simp [intOf]; omega
    · have hjmin : min m 300 = j := by omega
      have hpl : (allS k ws j).pend.length = j := by rw [allS_len]; omega
      have hx7 : -7 < x.tmod 7 ∧ x.tmod 7 < 7 := by
        have : (x.tmod 7).natAbs < 7 := by rw [Int.natAbs_tmod]; exact Nat.mod_lt _ (by decide)
        omega
      obtain ⟨hx70, hx71⟩ := hx7
      have hlast : layAll (allS k ws j).last (allS k ws j).pend = (flushed (allS k ws j)).last := rfl
      have HF0 : Hid ((allS k ws j).fuse = 0 ∧ (allS k ws j).off = false) := ⟨rfl, rfl⟩
      have hcr : ∀ t, j ≤ t → crashed (allS k ws j) (List.replicate t true) = fresh (flushed (allS k ws j)).last := fun t ht => by
        unfold crashed
        rw [kept_all _ _ (by rw [hpl]; exact ht)]
        rfl
      have HCR : Hid _ := hcr
      have HPL : Hid ((allS k ws j).pend.length = j) := hpl
      clear hL hcr hlast hpl
      generalize allS k ws j = S at *
      obtain ⟨wA, hwA⟩ : ∃ wA, wA = wr := ⟨wr, rfl⟩
      subst hwA
      have hji : (j : Int) ≤ 300 := by omega
      by_cases hjm2 : (j : Int) < m
      all_goals (
        try (have hj3 : ¬ (j : Int) < 300 := by omega)
        first | (have hje : ((j : Int) == 300) = true := by simp; omega) | (have hje : ((j : Int) == (m : Int)) = true := by simp; omega)
        have hs0 := B.size
        go_wp2_with fail
        go_loopw [12, 13] (fun v i wr => ∃ (t : Nat) (ka : Option Addr) (kc : Nat), t ≤ 400 ∧ i = .int .i64 t ∧ v = .slice ka t kc ∧ wr.ownsRow wA.heap.size 4 1 (.slice ka t kc) t ((List.replicate t true).map Value.bool) ∧ Below wA.heap.size wA wr) (fun _ i _ => 400 - (intOf i).toNat)
        case atStart => exact ⟨0, none, 0, Nat.zero_le _, rfl, rfl, World.ownsRow_nil _ _ _ _, Below.refl _ _⟩
        case round =>
          obtain ⟨t, ka, kc, ht, rfl, rfl, hown, hB⟩ := hrel
          have hti : (t : Int) ≤ 400 := by omega
          by_cases hlt2 : (t : Int) < m + x.tmod 7 ∧ (t : Int) < 400
          · obtain ⟨hc1, hc2⟩ := hlt2
            go_wp2_with (at_builtin; refine wpList_append_own _ rfl (.tmp 82) (.tmp 83) 34 rfl wA.heap.size 4 i0 (.bool false) 1 1 Try.underlying34 hi hz0 hz1 hz2 rfl (by decide) _ t _ rfl (hown.alloc _) ⟨wr.heap.size, 0, none⟩ 1 1 [.bool true] rfl rfl (cell_one_new _ _ _) (by intro u hu; simp at hu; subst hu; rfl) (by unfold maxLen; omega) (by omega) (by have := hB.size; simp; omega) ?_; intro v' w4 hown4 hgrow4 hnil4; obtain ⟨ka2, kc2, hv2⟩ := row_slice hown4; subst hv2)
            go_roundw
            case rel =>
              refine ⟨t + 1, ka2, kc2, by omega, by go_num, rfl, ?_, (hB.alloc hB.size _).grown hgrow4 (by simp; have := hB.size; omega) (fun k hk => (hown.lt k hk).1)⟩
              rw [List.replicate_succ']; simpa using hown4
            case measure => simp [intOf]; omega
          · have E1 := D1.turns (Below.turns (w := wA) (w' := wr) hB (fun _ => False)) (fun _ _ => id)
            have E2 := D2.turns (Below.turns (w := wA) (w' := wr) hB (fun _ => False)) (fun _ _ => id)
            have hl1 := D1.lt
            have hl2 := D2.lt
            have BB := B.trans (hB.mono B.size)
            clear D1 D2
            by_cases hq : (t : Int) < m + x.tmod 7
            all_goals first | (exfalso; omega) | (
              try (have hq4 : ¬ (t : Int) < 400 := by omega)
              go_wp2_with fail
              refine (pending_any E1 (by omega)).mono ?_
              rintro e w5 ⟨⟨GP, gsP, rfl, _⟩, D15, t5⟩
              rw [HPL.out]
              have D25 := E2.turns t5 (fun i h q => hap i q h)
              have hown5 := own_turns hown t5 (fun b hb q => by have := (hown.lt b hb).1; have := hl1 b q; omega)
              have B5 := BB.trans (t5.below hF BB.size)
              have hsA5 : wA.heap.size ≤ w5.heap.size := Nat.le_trans hB.size t5.size
              clear E1 E2 hown t5 hB BB hlt2
              go_wp2_with fail
              go_loopw [12] (fun v wr => ∃ (t : Nat) (ka : Option Addr) (kc : Nat), t ≤ 400 ∧ v = .slice ka t kc ∧ wr.ownsRow wA.heap.size 4 1 (.slice ka t kc) t ((List.replicate t true).map Value.bool) ∧ Dev wr d 0 S k j F ∧ Dev wr dc 0 S k j G ∧ Below w.heap.size w wr ∧ wA.heap.size ≤ wr.heap.size) (fun v _ => 400 - (match v with | .slice _ t _ => t | _ => 0))
              case atStart => exact ⟨t, ka, kc, ht, rfl, hown5, D15, D25, B5, hsA5⟩
              case round =>
                clear D15 D25 hown5 B5
                obtain ⟨t, ka, kc, ht, rfl, hown, D1, D2, B, hsA⟩ := hrel
                by_cases hlt3 : t < j
                · have hti : (t : Int) < j := by omega
                  go_wp2_with (at_builtin; refine wpList_append_own _ rfl (.tmp 92) (.tmp 93) 34 rfl wA.heap.size 4 i0 (.bool false) 1 1 Try.underlying34 hi hz0 hz1 hz2 rfl (by decide) _ t _ rfl (hown.alloc _) ⟨wr.heap.size, 0, none⟩ 1 1 [.bool true] rfl rfl (cell_one_new _ _ _) (by intro u hu; simp at hu; subst hu; rfl) (by unfold maxLen; omega) (by omega) (by simp; omega) ?_; intro v' w4 hown4 hgrow4 hnil4; obtain ⟨ka2, kc2, hv2⟩ := row_slice hown4; subst hv2)
                  have tt : Turns (fun i => (Value.slice ka t kc).ownBlock = some i) wr w4 := (Turns.alloc _ wr _).trans (Turns.grown (F := fun i => (Value.slice ka t kc).ownBlock = some i) hgrow4 (fun b hb => hb)) (fun _ _ h => h)
                  have hnF : ∀ i, (Value.slice ka t kc).ownBlock = some i → wA.heap.size ≤ i := fun i hi => (hown.lt i hi).1
                  have D1' := D1.turns tt (fun i h q => by have := hnF i q; have := hl1 i h; omega)
                  have D2' := D2.turns tt (fun i h q => by have := hnF i q; have := hl2 i h; omega)
                  have B' := B.trans (tt.below (fun i q => by have := hnF i q; omega) B.size)
                  have hs4 := tt.size
                  go_roundw
                  case rel =>
                    refine ⟨t + 1, ka2, kc2, by omega, rfl, ?_, D1', D2', B', by omega⟩
                    rw [List.replicate_succ']; simpa using hown4
                  case measure => simp; omega
                · have hti : (j : Int) ≤ t := by omega
                  have hK := KLies.own hown
                  have hnF : ∀ ad, ka = some ad → ¬ F ad.block := fun ad had q => by
                    have := (hown.lt ad.block (by rw [had]; rfl)).1
                    have := hl1 _ q
                    omega
                  go_wp2_with fail
                  refine (crash_any D1 ka t kc (List.replicate t true) hK (by omega) hnF (by omega)).mono ?_
                  rintro e w6 ⟨rfl, D6, t6⟩
                  rw [HCR.out t (by omega)] at D6
                  have E6 := D2.turns t6 (fun i h q => hap i q h)
                  have B6 := B.trans (t6.below hF B.size)
                  have hF6 := grow_below (w' := w6) hF B.size
                  have hap6 := grow_apart (w' := w6) hap D2.lt
                  generalize grow F wr w6 = F6 at *
                  clear D1 D2 t6 hK hown
                  go_wp2_with fail
                  refine (flush_on E6 HF0.out.1 HF0.out.2 (by omega)).mono ?_
                  rintro e w7 ⟨rfl, E7, t7⟩
                  have D7 := D6.turns t7 hap6
                  have B7 := B6.trans (t7.below hG B6.size)
                  have hG7 := grow_below (w' := w7) hG B6.size
                  have hap7 := grow_apart (w' := w7) (fun i h q => hap6 i q h) D6.lt
                  have hlen := E7.good.len
                  generalize grow G w6 w7 = G7 at *
                  clear D6 E6 t7
                  go_wp2_with fail
                  refine (durable_on D7).mono ?_
                  rintro e w8 ⟨g8, rfl, o8, D8, t8, hg8⟩
                  have E8 := E7.turns t8 hap7
                  have B8 := B7.trans (t8.below hF6 B7.size)
                  have hg8G : ¬ G7 g8 := fun q => by have := E7.lt g8 q; omega
                  clear D7 E7 t8
                  go_wp2_with fail
                  refine (durable_on E8).mono ?_
                  rintro e w9 ⟨g9, rfl, o9, E9, t9, _⟩
                  have B9 := B8.trans (t9.below hG7 B8.size)
                  have l8 : Lies w9 (some ⟨g8, 0, none⟩) (512 * k) (512 * k) (flushed S).last := Lies.full ((t9.block g8 (heap_lt o8.blk) hg8G).trans o8.blk) hlen
                  have l9 : Lies w9 (some ⟨g9, 0, none⟩) (512 * k) (512 * k) (flushed S).last := o9.lies hlen
                  clear D8 E8 E9 t9 o8 o9
                  go_wp2_with fail
                  refine (same_true _ _ (512 * k) (512 * k) (512 * k) (512 * k) _ _ (by omega) l8 l9).mono ?_
                  rintro e w10 ⟨rfl, t10, rfl⟩
                  have B10 := Below.drewN B9 t10
                  clear l8 l9
                  go_wp2_with (go_at_call 20; refine (num_id _ _).mono ?_; rintro e wn ⟨rfl, hwn⟩; subst wn)
                  go_ret
                  exact ⟨rfl, B10⟩))
end Go.Proofs.Ytkffnbcfmaoldaa
