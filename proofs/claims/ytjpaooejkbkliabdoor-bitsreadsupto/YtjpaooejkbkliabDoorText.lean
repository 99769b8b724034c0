/- text by its contracts. -/
import Derived.Test.YtjpaooejkbkliabDoorU32
import Derived.Test.YtjpaooejkbkliabDoorPutB
namespace Go.Proofs.YtjpaooejkbkliabDoor
open Go.RowKit
set_option maxRecDepth 100000

theorem padN_le (k : Nat) : padN k ≤ 3 := by unfold padN; omega

set_option maxHeartbeats 400000 in
theorem text_short (rb g n cap pl : Nat) (M code : Int) (bs : List Int) (er : Nat → Addr) (w : World) (hR : Rdr w rb g n cap pl code bs) (hE : Errs w er) (hp : pl ≤ n) (hk : n < pl + 4) (hn : cap ≤ 200000000000000) :
    Calls Tryd.prog 46 #[.pointer (some ⟨rb, 0, none⟩), .int .i64 M] w fun e w' => e = gaveUp (er 4) ∧ ∃ m, w' = w.drewN m := by
  go_enter Tryd.func46, Tryd.ntmps46
  go_wp2_with (go_at_call 42; refine (number_short rb g n cap pl 4 code bs er _ hR hE hp hk (by omega) hn).mono ?_; rintro e w1 ⟨rfl, m0, hw1⟩; subst w1)
  exact ⟨rfl, rfl, m0, rfl⟩

set_option maxHeartbeats 400000 in
theorem text_long (rb g n cap pl : Nat) (M code : Int) (bs : List Int) (er : Nat → Addr) (w : World) (hR : Rdr w rb g n cap pl code bs) (hE : Errs w er) (hk : pl + 4 ≤ n) (hn : cap ≤ 200000000000000) (hby : ∀ x ∈ bs, 0 ≤ x ∧ x ≤ 255)
    (hM1 : M ≤ 9223372036854775807) (hw : M < 0 ∨ M < val ((bs.drop pl).take 4)) :
    Calls Tryd.prog 46 #[.pointer (some ⟨rb, 0, none⟩), .int .i64 M] w fun e w' => e = gaveUp (er 2) ∧ ∃ m, w' = w.drewN m := by
  have e2 := hE.cell 2 (by omega)
  have HA : ∀ w : World, Calls Tryd.prog 51 #[.int .u64 (val ((bs.drop pl).take 4)), .int .i64 M] w fun e w' => e = .returned (.bool true) ∧ w' = w := by
    intro w
    rcases Int.lt_or_le M 0 with h | h
    · exact above_neg _ M w h
    · exact above_yes _ M w h hM1 (by omega)
  clear hw
  go_enter Tryd.func46, Tryd.ntmps46
  go_wp2_with (first
    | (go_at_call 42; refine (number_ok rb g n cap pl 4 code bs _ hR hk (by omega) (by omega) hn hby).mono ?_; rintro e w1 ⟨rfl, m0, hw1⟩; subst w1)
    | (go_at_call 51; refine (HA _).mono ?_; rintro e w2 ⟨rfl, hw2⟩; subst w2))
  exact ⟨rfl, rfl, m0, rfl⟩

set_option maxHeartbeats 400000 in
theorem text_short2 (rb g n cap pl k : Nat) (M code : Int) (bs : List Int) (er : Nat → Addr) (w : World) (hR : Rdr w rb g n cap pl code bs) (hE : Errs w er) (hk : pl + 4 ≤ n) (hn : cap ≤ 200000000000000) (hby : ∀ x ∈ bs, 0 ≤ x ∧ x ≤ 255)
    (hM1 : M ≤ 9223372036854775807) (hV : val ((bs.drop pl).take 4) = (k : Int)) (hkb : k ≤ 4294967296) (hkM : (k : Int) ≤ M) (hs : n < pl + (4 + k + padN k)) :
    Calls Tryd.prog 46 #[.pointer (some ⟨rb, 0, none⟩), .int .i64 M] w fun e w' => e = gaveUp (er 4) ∧ ∃ m, w' = w.drewN m := by
  have hp3 := padN_le k
  have hki : (k : Int) ≤ 4294967296 := by omega
  have hpi : (padN k : Int) ≤ 3 := by omega
  have hN := number_ok rb g n cap pl 4 code bs w hR hk (by omega) (by omega) hn hby
  rw [hV] at hN
  clear hV
  go_enter Tryd.func46, Tryd.ntmps46
  go_wp2_with (first
    | (go_at_call 42; refine hN.mono ?_; rintro e w1 ⟨rfl, m0, hw1⟩; subst w1)
    | (go_at_call 51; refine (above_no _ M _ (by omega) hM1 hkM).mono ?_; rintro e w2 ⟨rfl, hw2⟩; subst w2)
    | (go_at_call 49; refine (pad_any k _ (by omega)).mono ?_; rintro e w3 ⟨rfl, hw3⟩; subst w3)
    | (go_at_call 52; refine (ahead_short rb g n cap pl (4 + k + padN k) code bs er _ (hR.drewN m0) (hE.drewN m0) (by omega) hs (by omega) hn).mono ?_; rintro e w4 ⟨rfl, m4, hw4⟩; subst w4))
  exact ⟨rfl, rfl, _, rfl⟩

set_option maxHeartbeats 1000000 in
theorem text_ok (rb g n cap pl k : Nat) (M code : Int) (bs : List Int) (w : World) (hR : Rdr w rb g n cap pl code bs) (hn : cap ≤ 200000000000000) (hby : ∀ x ∈ bs, 0 ≤ x ∧ x ≤ 255)
    (hM1 : M ≤ 9223372036854775807) (hV : val ((bs.drop pl).take 4) = (k : Int)) (hkb : k ≤ 4294967296) (hkM : (k : Int) ≤ M) (hs : pl + (4 + k + padN k) ≤ n)
    (hz : ∀ t, t < padN k → bs.getD (pl + (4 + k) + t) 0 = 0) :
    Calls Tryd.prog 46 #[.pointer (some ⟨rb, 0, none⟩), .int .i64 M] w fun e w' => ∃ q, e = .returned (.slice (some ⟨g, q, none⟩) k (cap - pl - 4)) ∧ (0 < k → q = pl + 4) ∧ ∃ m, w' = (w.drewN m).setCell ⟨rb, 1, none⟩ (.int .i64 ((pl + (4 + k + padN k) : Nat) : Int)) := by
  have hp3 := padN_le k
  have hki : (k : Int) ≤ 4294967296 := by omega
  have hpi : (padN k : Int) ≤ 3 := by omega
  have hnc := hR.lies.hle
  have c1 := hR.c1
  have f1 := hR.f 1
  have hcz : ∀ t, t < padN k → w.cell? ⟨g, pl + (4 + k) + t, none⟩ = some (.int .u8 0) := fun t ht => by rw [hR.byte _ (by omega), hz t ht]
  have hN := number_ok rb g n cap pl 4 code bs w hR (by omega) (by omega) (by omega) hn hby
  rw [hV] at hN
  have hAh := fun m0 => ahead_ok rb g n cap pl (4 + k + padN k) code bs _ (hR.drewN m0) hs (by omega) hn
  obtain ⟨c, hc⟩ : ∃ c, c = cap - pl := ⟨_, rfl⟩
  rw [← hc] at hAh ⊢
  have hcb : 4 + k + padN k ≤ c := by omega
  have hcc : c ≤ 200000000000000 := by omega
  have hpl : (pl : Int) ≤ 200000000000000 := by omega
  clear hV hz hby hR hc
  by_cases hA : 4 + k < c
  · have hA1 : ¬ c = 4 + k := by omega
    have hA2 : ¬ c = 4 := by omega
    go_enter Tryd.func46, Tryd.ntmps46
    go_wp2_with (first
      | (go_at_call 42; refine hN.mono ?_; rintro e w1 ⟨rfl, m0, hw1⟩; subst w1)
      | (go_at_call 51; refine (above_no _ M _ (by omega) hM1 hkM).mono ?_; rintro e w2 ⟨rfl, hw2⟩; subst w2)
      | (go_at_call 49; refine (pad_any k _ (by omega)).mono ?_; rintro e w3 ⟨rfl, hw3⟩; subst w3)
      | (go_at_call 52; refine (hAh m0).mono ?_; rintro e w4 ⟨rfl, m4, hw4⟩; subst w4))
    go_loop [27] (fun i => ∃ t : Nat, t ≤ padN k ∧ i = .int .i64 t) (fun i => padN k - (intOf i).toNat)
    case atStart => exact ⟨0, Nat.zero_le _, rfl⟩
    case round =>
      obtain ⟨t, ht, rfl⟩ := hrel
      by_cases hlt : t < padN k
      · have hct := hcz t hlt
        clear hcz
        go_wp2
        go_round
        case rel => exact ⟨t + 1, by omega, by go_num⟩
        case measure => simp [intOf]; omega
      · clear hcz
        go_wp2
        go_ret
        exact ⟨pl + 4, rfl, fun _ => rfl, m0 + m4, by simp⟩
  · obtain rfl : c = 4 + k := by omega
    have hpz : padN k = 0 := by omega
    have hPd := fun w => pad_any k w (by omega)
    simp only [hpz, Nat.add_zero] at hAh hPd
    clear hcz hA hcb
    by_cases hk0 : k = 0
    · subst hk0
      go_enter Tryd.func46, Tryd.ntmps46
      go_wp2_with (first
        | (go_at_call 42; refine hN.mono ?_; rintro e w1 ⟨rfl, m0, hw1⟩; subst w1)
        | (go_at_call 51; refine (above_no _ M _ (by omega) hM1 hkM).mono ?_; rintro e w2 ⟨rfl, hw2⟩; subst w2)
        | (go_at_call 49; refine (hPd _).mono ?_; rintro e w3 ⟨rfl, hw3⟩; subst w3)
        | (go_at_call 52; refine (hAh m0).mono ?_; rintro e w4 ⟨rfl, m4, hw4⟩; subst w4))
      refine wp_loop_rounds 1 ?_
      rw [rounds_succ]
      go_wp2
      go_ret
      exact ⟨pl, rfl, fun h => absurd h (by omega), m0 + m4, by simp [hpz]⟩
    · go_enter Tryd.func46, Tryd.ntmps46
      go_wp2_with (first
        | (go_at_call 42; refine hN.mono ?_; rintro e w1 ⟨rfl, m0, hw1⟩; subst w1)
        | (go_at_call 51; refine (above_no _ M _ (by omega) hM1 hkM).mono ?_; rintro e w2 ⟨rfl, hw2⟩; subst w2)
        | (go_at_call 49; refine (hPd _).mono ?_; rintro e w3 ⟨rfl, hw3⟩; subst w3)
        | (go_at_call 52; refine (hAh m0).mono ?_; rintro e w4 ⟨rfl, m4, hw4⟩; subst w4))
      refine wp_loop_rounds 1 ?_
      rw [rounds_succ]
      go_wp2
      go_ret
      exact ⟨pl + 4, by rw [show 4 + k - 4 = k by omega]; rfl, fun _ => rfl, m0 + m4, by simp [hpz]⟩

set_option maxHeartbeats 1000000 in
theorem text_pad (rb g n cap pl k : Nat) (M code : Int) (bs : List Int) (er : Nat → Addr) (w : World) (hR : Rdr w rb g n cap pl code bs) (hE : Errs w er) (hn : cap ≤ 200000000000000) (hby : ∀ x ∈ bs, 0 ≤ x ∧ x ≤ 255)
    (hM1 : M ≤ 9223372036854775807) (hV : val ((bs.drop pl).take 4) = (k : Int)) (hkb : k ≤ 4294967296) (hkM : (k : Int) ≤ M) (hs : pl + (4 + k + padN k) ≤ n)
    (hz : ¬ ∀ t, t < padN k → bs.getD (pl + (4 + k) + t) 0 = 0) :
    Calls Tryd.prog 46 #[.pointer (some ⟨rb, 0, none⟩), .int .i64 M] w fun e w' => e = gaveUp (er 3) ∧ ∃ m, w' = w.drewN m := by
  have hp3 := padN_le k
  have hki : (k : Int) ≤ 4294967296 := by omega
  have hpi : (padN k : Int) ≤ 3 := by omega
  have hnc := hR.lies.hle
  have e3 := hE.cell 3 (by omega)
  have hcz : ∀ t, t < padN k → w.cell? ⟨g, pl + (4 + k) + t, none⟩ = some (.int .u8 (bs.getD (pl + (4 + k) + t) 0)) := fun t ht => hR.byte _ (by omega)
  have hN := number_ok rb g n cap pl 4 code bs w hR (by omega) (by omega) (by omega) hn hby
  rw [hV] at hN
  have hAh := fun m0 => ahead_ok rb g n cap pl (4 + k + padN k) code bs _ (hR.drewN m0) hs (by omega) hn
  obtain ⟨c, hc⟩ : ∃ c, c = cap - pl := ⟨_, rfl⟩
  rw [← hc] at hAh
  have hcb : 4 + k + padN k ≤ c := by omega
  have hcc : c ≤ 200000000000000 := by omega
  have hpl : (pl : Int) ≤ 200000000000000 := by omega
  have hp1 : 0 < padN k := by
    rcases Nat.eq_zero_or_pos (padN k) with h | h
    · exact absurd (fun t ht => by omega) hz
    · exact h
  have hA1 : ¬ c = 4 + k := by omega
  have hA2 : ¬ c = 4 := by omega
  have HZ : Hid (¬ ∀ t, t < padN k → bs.getD (pl + (4 + k) + t) 0 = 0) := hz
  clear hV hz hby hR hc hE
  go_enter Tryd.func46, Tryd.ntmps46
  go_wp2_with (first
    | (go_at_call 42; refine hN.mono ?_; rintro e w1 ⟨rfl, m0, hw1⟩; subst w1)
    | (go_at_call 51; refine (above_no _ M _ (by omega) hM1 hkM).mono ?_; rintro e w2 ⟨rfl, hw2⟩; subst w2)
    | (go_at_call 49; refine (pad_any k _ (by omega)).mono ?_; rintro e w3 ⟨rfl, hw3⟩; subst w3)
    | (go_at_call 52; refine (hAh m0).mono ?_; rintro e w4 ⟨rfl, m4, hw4⟩; subst w4))
  go_loop [27] (fun i => ∃ t : Nat, t ≤ padN k ∧ i = .int .i64 t ∧ Hid (∀ s, s < t → bs.getD (pl + (4 + k) + s) 0 = 0)) (fun i => padN k - (intOf i).toNat)
  case atStart => exact ⟨0, Nat.zero_le _, rfl, fun s hs => absurd hs (by omega)⟩
  case round =>
    obtain ⟨t, ht, rfl, hall⟩ := hrel
    by_cases hlt : t < padN k
    · have hct := hcz t hlt
      clear hcz
      by_cases hC : bs.getD (pl + (4 + k) + t) 0 = 0
      · have hall' : Hid (∀ s, s < t + 1 → bs.getD (pl + (4 + k) + s) 0 = 0) := fun s hs => by
          rcases Nat.lt_or_ge s t with h | h
          · exact hall s h
          · obtain rfl : s = t := by omega
            exact hC
        rw [hC] at hct
        clear hC
        go_wp2
        go_round
        case rel => exact ⟨t + 1, by omega, by go_num, hall'⟩
        case measure => simp [intOf]; omega
      · generalize hCC : bs.getD (pl + (4 + k) + t) 0 = C at *
        have hne : (C != 0) = true := by simpa using hC
        clear hCC hC
        go_wp2
        exact ⟨rfl, rfl, m0 + m4, rfl⟩
    · obtain rfl : t = padN k := by omega
      exact absurd hall HZ.out
end Go.Proofs.YtjpaooejkbkliabDoor
