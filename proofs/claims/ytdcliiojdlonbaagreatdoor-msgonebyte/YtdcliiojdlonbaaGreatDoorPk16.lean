/- ended, and MsgSums. -/
import Derived.Test.YtdcliiojdlonbaaGreatDoorPk15
namespace Go.Proofs.YtdcliiojdlonbaaGreatDoor
open Go.RowKit
set_option maxRecDepth 100000

theorem be_get (S : Int) : ∀ (k i : Nat), i < k → (be S k).getD i 0 = S / 2 ^ (8 * (k - 1 - i)) % 256
  | 0, i, h => by omega
  | k + 1, 0, _ => by simp [be]
  | k + 1, i + 1, h => by
    have := be_get S k i (by omega)
    simp only [be, List.getD_cons_succ, this]
    congr 3; omega
theorem close_get (X : List Int) (i : Nat) (hi : i < 8) : (closeB X).getD (X.length + i) 0 = sumOf X / 2 ^ (8 * (7 - i)) % 256 := by
  have h1 := be_get (sumOf X) 8 i hi
  unfold closeB
  rw [List.getD_eq_getElem?_getD, List.getElem?_append_right (by omega), Nat.add_sub_cancel_left, ← List.getD_eq_getElem?_getD]
  exact h1
theorem div_step (S : Int) (k : Nat) (_h : 0 ≤ S) : S / 2 ^ (8 * k) / 256 = S / 2 ^ (8 * (k + 1)) := by
  rw [Int.ediv_ediv_of_nonneg (Int.le_of_lt (Int.pow_pos (by decide))), show 8 * (k + 1) = 8 * k + 8 by omega, Int.pow_add]
  rfl

set_option maxHeartbeats 2000000 in
theorem ended_true (X : List Int) (b o c p : Nat) (w : World) (hp : X.length = p) (h4 : 4 ≤ p) (hp2 : p ≤ 100000) (hL : Lies w (some ⟨b, o, none⟩) (p + 8) c (closeB X)) (hby : Bys X) :
    Calls Tryz.prog 24 #[.slice (some ⟨b, o, none⟩) (p + 8) c] w fun e w' => e = .returned (.bool true) ∧ Below w.heap.size w w' := by
  have hle := hL.hle
  have h1 : (0 : Int) ≤ (p : Int) := by omega
  have h2 : (p : Int) ≤ (p : Int) + 8 := by omega
  have h3 : (p : Int) ≤ (c : Int) := by omega
  have h5 : (4 : Int) ≤ (p : Int) := by omega
  have h6 : (p : Int) ≤ 100000 := by omega
  have hd4 : decide ((p : Int) < 4) = false := by simp; omega
  have hpre : Lies w (some ⟨b, o, none⟩) p c X := by
    have q := hL.pre (k := p) (by omega)
    rw [show (closeB X).take p = X by unfold closeB; rw [← hp, List.take_append_of_le_length (Nat.le_refl _), List.take_length]] at q
    exact q
  obtain ⟨b', o', hbo, hcell⟩ := hL.at (by omega)
  cases hbo
  have hs := sumOf_bd X
  have hcl : ∀ i, i < 8 → w.cell? ⟨b, o + (p + i), none⟩ = some (.int .u8 (sumOf X / 2 ^ (8 * (7 - i)) % 256)) := fun i hi => by
    rw [hcell (p + i) (by omega), ← hp, close_get X i hi]
  clear hcell hL hp
  go_enter Tryz.func24, Tryz.ntmps24
  go_wp2_with fail
  refine (S2.sum_any _ p c X _ (by omega) hpre hby).mono ?_
  rintro e w1 ⟨rfl, hw1⟩
  subst w1
  have hS : S2.fwd 14695981039346656037 X = sumOf X := rfl
  rw [hS]
  clear hS hpre hby
  generalize sumOf X = S at *
  go_wp2
  go_loopw [4, 5] (fun s i wr => ∃ j : Nat, j ≤ 8 ∧ i = .int .i64 ((j : Int) - 1) ∧ s = .int .u64 (S / 2 ^ (8 * (8 - j))) ∧ wr = w) (fun _ i _ => (intOf i + 1).toNat)
  case atStart => exact ⟨8, Nat.le_refl _, rfl, by simp, rfl⟩
  case round =>
    obtain ⟨j, hj, rfl, rfl, hwr⟩ := hrel
    subst wr
    by_cases hlt : 0 < j
    · obtain ⟨t, rfl⟩ : ∃ t, j = t + 1 := ⟨j - 1, by omega⟩
      have hct := hcl t (by omega)
      have hst := div_step S (7 - t) hs.1
      rw [show 7 - t + 1 = 8 - t by omega] at hst
      have e8 : 8 - (t + 1) = 7 - t := by omega
      have hv0 : 0 ≤ S / 2 ^ (8 * (7 - t)) := Int.ediv_nonneg hs.1 (Int.le_of_lt (Int.pow_pos (by decide)))
      have hv1 : S / 2 ^ (8 * (7 - t)) ≤ 18446744073709551615 := Int.le_trans (Int.ediv_le_self _ hs.1) hs.2
      have HST : Hid (S / 2 ^ (8 * (7 - t)) / 256 = S / 2 ^ (8 * (8 - t))) := hst
      rw [e8]
      clear hst hcl e8
      generalize S / 2 ^ (8 * (7 - t)) = V at *
      have ht7 : (t : Int) ≤ 7 := by omega
      have hti : (0 : Int) ≤ (t : Int) := by omega
      have hwr8 : IntKind.u8.wrap V = V % 256 := by rw [IntKind.wrap_u8]
      go_wp2
      go_roundw
      case rel => exact ⟨t, by omega, by go_num, by rw [HST.out], by trivial⟩
      case measure => simp [intOf]
    · clear hcl
      have hk0 : (j : Int) ≤ 0 := by omega
      go_wp2
      go_ret
      exact ⟨rfl, Below.refl _ _⟩
/-- ended, of a datagram that Encode made. -/
theorem ended_enc (X : List Int) (g n c : Nat) (w : World) (h4 : 4 ≤ X.length) (hp2 : X.length ≤ 100000) (hby : Bys X) (hL : Lies w (some ⟨g, 0, none⟩) n c (closeB X)) :
    Calls Tryz.prog 24 #[.slice (some ⟨g, 0, none⟩) n c] w fun e w' => e = .returned (.bool true) ∧ Below w.heap.size w w' := by
  have hn := hL.hlen
  have hc : (closeB X).length = X.length + 8 := by simp [closeB, be_length]
  rw [hc] at hn
  subst hn
  exact ended_true X g 0 c X.length w rfl h4 hp2 hL hby
theorem rqB_is {r : Req} (h : rqE r = 0) (hby : Bys r.data) : ∃ X, rqB r = closeB X ∧ 4 ≤ X.length ∧ X.length ≤ 100000 ∧ Bys X := by
  obtain ⟨h1, h2, h3⟩ := requestHead_bys r
  have hsm := judge_small (rqE_zero h)
  have hvb : ∀ g ∈ pick (hasRq r.op) (rqAny r), VBy g.2 := fun g hg => requestBody_bys r hby g (pick_mem hg).1
  have hl := putAll_len hsm
  refine ⟨nums ⟨#[65, 78, 81, 49]⟩ ++ putAll (rqHead r) ++ putAll (pick (hasRq r.op) (rqAny r)), rfl, ?_, ?_, ((nums_bys _).app (putAll_bys h1)).app (putAll_bys hvb)⟩
  · have : (nums ⟨#[65, 78, 81, 49]⟩).length = 4 := by decide
    simp [this]
  · have h5 : (nums ⟨#[65, 78, 81, 49]⟩).length = 4 := by decide
    have h6 : (pick (hasRq r.op) (rqAny r)).length ≤ 4 := by
      unfold hasRq pick rqAny
      repeat (first | (split; · simp [List.filter]) | simp [List.filter])
    simp only [List.length_append]
    omega
theorem rpB_is {r : Rep} (h : rpE r = 0) (hby : Bys r.data) : ∃ X, rpB r = closeB X ∧ 4 ≤ X.length ∧ X.length ≤ 100000 ∧ Bys X := by
  obtain ⟨h1, h2, h3⟩ := replyHead_bys r
  have hsm := judge_small (rpE_zero h)
  have hvb : ∀ g ∈ pick (hasRp r.op r.status) (rpAny r), VBy g.2 := fun g hg => replyBody_bys r hby g (pick_mem hg).1
  have hl := putAll_len hsm
  refine ⟨nums ⟨#[65, 78, 82, 49]⟩ ++ putAll (rpHead r) ++ putAll (pick (hasRp r.op r.status) (rpAny r)), rfl, ?_, ?_, ((nums_bys _).app (putAll_bys h1)).app (putAll_bys hvb)⟩
  · have : (nums ⟨#[65, 78, 82, 49]⟩).length = 4 := by decide
    simp [this]
  · have h5 : (nums ⟨#[65, 78, 82, 49]⟩).length = 4 := by decide
    have h6 : (pick (hasRp r.op r.status) (rpAny r)).length ≤ 4 := pick_len _ _
    simp only [List.length_append]
    omega

set_option maxHeartbeats 4000000 in
theorem sums_any (r : Req) (ao : Option Addr) (n c : Nat) (y : Rep) (bo : Option Addr) (m d : Nat) (lo : Option Addr) (ln lc : Nat) (er : Nat → Addr) (w : World) (hE : Errs w er)
    (hD : Lies w ao n c r.data) (hp : r.path.size ≤ 281474976710656) (hby : Bys r.data) (hD2 : Lies w bo m d y.data) (hby2 : Bys y.data) (hN : CLies w lo ln lc 3 (entCells y.list)) (hel : y.list.length = ln) :
    Calls Tryz.prog 7 #[rqV r ao n c, rpV y bo m d lo ln lc] w fun e w' => e = .returned (.bool true) ∧ Below w.heap.size w w' := by
  have HEL : Hid (y.list.length = ln) := hel
  clear hel
  have hq0 := RqBox.new w r ao n c
  have hp0 : RpBox ((w.alloc (.cells #[.int .i64 r.client, .int .i64 r.seq, .int .i64 r.ack, .int .i64 r.epoch, .int .i64 r.op, .int .i64 r.id, .int .i64 r.id2, .int .i64 r.off, .int .i64 r.len, .string r.path, .string r.name, .string r.name2, .slice ao n c] 24)).alloc (.cells #[.int .i64 y.client, .int .i64 y.seq, .int .i64 y.epoch, .int .i64 y.op, .int .i64 y.status, .int .i64 y.ai, .int .i64 y.ak, .int .i64 y.az, .int .i64 y.ac, .slice bo m d, .slice lo ln lc, .bool y.more] 30)) (w.heap.size + 1) y bo m d lo ln lc := by
    have q := RpBox.new (w.alloc (.cells #[.int .i64 r.client, .int .i64 r.seq, .int .i64 r.ack, .int .i64 r.epoch, .int .i64 r.op, .int .i64 r.id, .int .i64 r.id2, .int .i64 r.off, .int .i64 r.len, .string r.path, .string r.name, .string r.name2, .slice ao n c] 24)) y bo m d lo ln lc
    rw [show (w.alloc (.cells #[.int .i64 r.client, .int .i64 r.seq, .int .i64 r.ack, .int .i64 r.epoch, .int .i64 r.op, .int .i64 r.id, .int .i64 r.id2, .int .i64 r.off, .int .i64 r.len, .string r.path, .string r.name, .string r.name2, .slice ao n c] 24)).heap.size = w.heap.size + 1 by simp] at q
    exact q
  have hq0 := RqBox.later hq0 (newBox (w.alloc (.cells #[.int .i64 r.client, .int .i64 r.seq, .int .i64 r.ack, .int .i64 r.epoch, .int .i64 r.op, .int .i64 r.id, .int .i64 r.id2, .int .i64 r.off, .int .i64 r.len, .string r.path, .string r.name, .string r.name2, .slice ao n c] 24)) (.cells #[.int .i64 y.client, .int .i64 y.seq, .int .i64 y.epoch, .int .i64 y.op, .int .i64 y.status, .int .i64 y.ai, .int .i64 y.ak, .int .i64 y.az, .int .i64 y.ac, .slice bo m d, .slice lo ln lc, .bool y.more] 30)) (Nat.le_refl _)
  have hb0 := box2 w (.cells #[.int .i64 r.client, .int .i64 r.seq, .int .i64 r.ack, .int .i64 r.epoch, .int .i64 r.op, .int .i64 r.id, .int .i64 r.id2, .int .i64 r.off, .int .i64 r.len, .string r.path, .string r.name, .string r.name2, .slice ao n c] 24) (.cells #[.int .i64 y.client, .int .i64 y.seq, .int .i64 y.epoch, .int .i64 y.op, .int .i64 y.status, .int .i64 y.ai, .int .i64 y.ak, .int .i64 y.az, .int .i64 y.ac, .slice bo m d, .slice lo ln lc, .bool y.more] 30)
  go_enter Tryz.func7, Tryz.ntmps7
  go_wp2_with fail
  generalize (w.alloc (.cells #[.int .i64 r.client, .int .i64 r.seq, .int .i64 r.ack, .int .i64 r.epoch, .int .i64 r.op, .int .i64 r.id, .int .i64 r.id2, .int .i64 r.off, .int .i64 r.len, .string r.path, .string r.name, .string r.name2, .slice ao n c] 24)).alloc (.cells #[.int .i64 y.client, .int .i64 y.seq, .int .i64 y.epoch, .int .i64 y.op, .int .i64 y.status, .int .i64 y.ai, .int .i64 y.ak, .int .i64 y.az, .int .i64 y.ac, .slice bo m d, .slice lo ln lc, .bool y.more] 30) = w0 at *
  refine (head_any er _ (hE.below hb0 (Nat.le_refl _))).mono ?_
  rintro e w1 ⟨rfl, hb1⟩
  have hq1 := RqBox.later hq0 hb1 (Nat.le_refl _)
  have hp1 := RpBox.later hp0 hb1 (Nat.le_refl _)
  have hB1 := hb0.trans (hb1.mono hb0.size)
  clear hq0 hp0 hb0 hb1
  obtain ⟨q0, q1, q2, q3, q4, q5, q6, q7, q8, q9, q10, q11, q12⟩ := hq1
  go_wp2_with fail
  clear q0 q1 q2 q3 q4 q5 q6 q7 q8 q9 q10 q11 q12
  refine (EncodeRequest_any r ao n c _ (hD.below hB1 (Nat.le_refl _)) hp hby).mono ?_
  rintro e w2 hR2
  have hmid : ∃ (v : Value) (E : Int), e = .returned (.tuple #[v, .int .i64 E]) ∧ Below w1.heap.size w1 w2 ∧ (E = 0 → ∃ g k l, v = .slice (some ⟨g, 0, none⟩) k l ∧ Lies w2 (some ⟨g, 0, none⟩) k l (rqB r)) ∧ (E = 0 → rqE r = 0) ∧ ∃ a k l, v = .slice a k l := by
    rcases hR2 with ⟨h, he, hb⟩ | ⟨h, g, k, l, he, ho, hb⟩
    · exact ⟨_, _, he, hb, fun q => absurd q h, fun q => absurd q h, none, 0, 0, rfl⟩
    · exact ⟨_, _, he, hb, fun _ => ⟨g, k, l, rfl, Lies.owned ho⟩, fun _ => h, _, _, _, rfl⟩
  clear hR2
  obtain ⟨v2, E2, rfl, hb2, hok2, hz2, a2, k2, l2, rfl⟩ := hmid
  have hp2 := RpBox.later hp1 hb2 (Nat.le_refl _)
  have hB2 := hB1.trans (hb2.mono hB1.size)
  clear hp1 hb2 hB1
  have tail : ∀ (W : World) (hB : Below w.heap.size w W) (hpW : RpBox W (w.heap.size + 1) y bo m d lo ln lc), True := fun _ _ _ => trivial
  clear tail
  by_cases hz : E2 = 0
  · obtain ⟨g3, k3, l3, hv3, hL3⟩ := hok2 hz
    obtain ⟨X, hX, hX4, hX5, hXb⟩ := rqB_is (hz2 hz) hby
    rw [hX] at hL3
    cases hv3
    subst hz
    clear hok2 hz2 hX
    go_wp2_with (first
      | (go_at_call 11; refine (num_id _ _).mono ?_; rintro e wn ⟨rfl, hwn⟩; subst wn)
      | (go_at_call 24; refine (ended_enc X g3 k2 l2 _ hX4 hX5 hXb hL3).mono ?_; rintro e w4 ⟨rfl, hb4⟩; have hp4 := RpBox.later hp2 hb4 (Nat.le_refl _); have hB4 := hB2.trans (hb4.mono hB2.size); obtain ⟨p0, p1, p2, p3, p4, p5, p6, p7, p8, p9, p10, p11⟩ := hp4))
    clear p0 p1 p2 p3 p4 p5 p6 p7 p8 p9 p10 p11
    refine (EncodeReply_any y bo m d lo ln lc _ (hD2.below hB4 (Nat.le_refl _)) (hN.below hB4 (Nat.le_refl _)) HEL.out hby2).mono ?_
    rintro e w5 hR5
    have hmid : ∃ (v : Value) (E : Int), e = .returned (.tuple #[v, .int .i64 E]) ∧ Below w.heap.size w w5 ∧ (E = 0 → ∃ g k l, v = .slice (some ⟨g, 0, none⟩) k l ∧ Lies w5 (some ⟨g, 0, none⟩) k l (rpB y)) ∧ (E = 0 → rpE y = 0) ∧ ∃ a k l, v = .slice a k l := by
      rcases hR5 with ⟨h, he, hb⟩ | ⟨h, g, k, l, he, ho, hb⟩
      · exact ⟨_, _, he, hB4.trans (hb.mono hB4.size), fun q => absurd q h, fun q => absurd q h, none, 0, 0, rfl⟩
      · exact ⟨_, _, he, hB4.trans (hb.mono hB4.size), fun _ => ⟨g, k, l, rfl, Lies.owned ho⟩, fun _ => h, _, _, _, rfl⟩
    clear hR5
    obtain ⟨v5, E5, rfl, hB5, hok5, hz5, a5, k5, l5, rfl⟩ := hmid
    clear hB4
    by_cases hy : E5 = 0
    · obtain ⟨g6, k6, l6, hv6, hL6⟩ := hok5 hy
      obtain ⟨Y, hY, hY4, hY5, hYb⟩ := rpB_is (hz5 hy) hby2
      rw [hY] at hL6
      cases hv6
      subst hy
      clear hok5 hz5 hY
      go_wp2_with (first
        | (go_at_call 11; refine (num_id _ _).mono ?_; rintro e wn ⟨rfl, hwn⟩; subst wn)
        | (go_at_call 24; refine (ended_enc Y g6 k5 l5 _ hY4 hY5 hYb hL6).mono ?_; rintro e w7 ⟨rfl, hb7⟩; have hB7 := hB5.trans (hb7.mono hB5.size)))
      go_ret
      exact ⟨rfl, hB7⟩
    · clear hok5 hz5
      have hne1 : (E5 != 0) = true := by simpa using hy
      have hne2 : (E5 == 0) = false := by simpa using hy
      have hne3 : decide (E5 = 0) = false := by simpa using hy
      go_wp2_with (first
        | (go_at_call 11; refine (num_id _ _).mono ?_; rintro e wn ⟨rfl, hwn⟩; subst wn))
      go_ret
      exact ⟨rfl, hB5⟩
  · clear hok2 hz2
    have hne1 : (E2 != 0) = true := by simpa using hz
    have hne2 : (E2 == 0) = false := by simpa using hz
    have hne3 : decide (E2 = 0) = false := by simpa using hz
    obtain ⟨p0, p1, p2, p3, p4, p5, p6, p7, p8, p9, p10, p11⟩ := hp2
    go_wp2_with (first
      | (go_at_call 11; refine (num_id _ _).mono ?_; rintro e wn ⟨rfl, hwn⟩; subst wn))
    clear p0 p1 p2 p3 p4 p5 p6 p7 p8 p9 p10 p11
    refine (EncodeReply_any y bo m d lo ln lc _ (hD2.below hB2 (Nat.le_refl _)) (hN.below hB2 (Nat.le_refl _)) HEL.out hby2).mono ?_
    rintro e w5 hR5
    have hmid : ∃ (v : Value) (E : Int), e = .returned (.tuple #[v, .int .i64 E]) ∧ Below w.heap.size w w5 ∧ (E = 0 → ∃ g k l, v = .slice (some ⟨g, 0, none⟩) k l ∧ Lies w5 (some ⟨g, 0, none⟩) k l (rpB y)) ∧ (E = 0 → rpE y = 0) ∧ ∃ a k l, v = .slice a k l := by
      rcases hR5 with ⟨h, he, hb⟩ | ⟨h, g, k, l, he, ho, hb⟩
      · exact ⟨_, _, he, hB2.trans (hb.mono hB2.size), fun q => absurd q h, fun q => absurd q h, none, 0, 0, rfl⟩
      · exact ⟨_, _, he, hB2.trans (hb.mono hB2.size), fun _ => ⟨g, k, l, rfl, Lies.owned ho⟩, fun _ => h, _, _, _, rfl⟩
    clear hR5
    obtain ⟨v5, E5, rfl, hB5, hok5, hz5, a5, k5, l5, rfl⟩ := hmid
    clear hB2
    by_cases hy : E5 = 0
    · obtain ⟨g6, k6, l6, hv6, hL6⟩ := hok5 hy
      obtain ⟨Y, hY, hY4, hY5, hYb⟩ := rpB_is (hz5 hy) hby2
      rw [hY] at hL6
      cases hv6
      subst hy
      clear hok5 hz5 hY
      go_wp2_with (first
        | (go_at_call 11; refine (num_id _ _).mono ?_; rintro e wn ⟨rfl, hwn⟩; subst wn)
        | (go_at_call 24; refine (ended_enc Y g6 k5 l5 _ hY4 hY5 hYb hL6).mono ?_; rintro e w7 ⟨rfl, hb7⟩; have hB7 := hB5.trans (hb7.mono hB5.size)))
      go_ret
      exact ⟨rfl, hB7⟩
    · clear hok5 hz5
      have hne1 : (E5 != 0) = true := by simpa using hy
      have hne2 : (E5 == 0) = false := by simpa using hy
      have hne3 : decide (E5 = 0) = false := by simpa using hy
      go_wp2_with (first
        | (go_at_call 11; refine (num_id _ _).mono ?_; rintro e wn ⟨rfl, hwn⟩; subst wn))
      go_ret
      exact ⟨rfl, hB5⟩
end Go.Proofs.YtdcliiojdlonbaaGreatDoor
