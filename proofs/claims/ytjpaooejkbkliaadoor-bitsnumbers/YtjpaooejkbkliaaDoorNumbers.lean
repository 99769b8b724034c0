/- BitsNumbers: the walk. -/
import Derived.Test.YtjpaooejkbkliaaDoorHead
namespace Go.Proofs.YtjpaooejkbkliaaDoor
open Go.RowKit
set_option maxRecDepth 100000

theorem be_at (X : Int) : ∀ (n k : Nat), k < n → (be X n)[n - 1 - k]? = some (X / 2 ^ (8 * k) % 256)
  | n + 1, k, h => by
    by_cases hk : k = n
    · subst hk; simp [be]
    · have := be_at X n k (by omega)
      have e : n + 1 - 1 - k = (n - 1 - k) + 1 := by omega
      rw [e, be, List.getElem?_cons_succ]; exact this

theorem div_next (X : Int) (k : Nat) : X / 2 ^ (8 * k) / 256 = X / 2 ^ (8 * (k + 1)) := by
  have hp : (0 : Int) < 2 ^ (8 * k) := Int.pow_pos (by decide)
  rw [Int.ediv_ediv, if_neg (by omega), Int.sub_zero, show 8 * (k + 1) = 8 * k + 8 by omega, Int.pow_add]; rfl

theorem div_bd (X : Int) (k : Nat) (h0 : 0 ≤ X) (h1 : X ≤ 18446744073709551615) : 0 ≤ X / 2 ^ (8 * k) ∧ X / 2 ^ (8 * k) ≤ 18446744073709551615 := by
  have hp : (0 : Int) < 2 ^ (8 * k) := Int.pow_pos (by decide)
  exact ⟨Int.ediv_nonneg h0 (Int.le_of_lt hp), Int.le_trans (Int.ediv_le_self _ h0) h1⟩

/-- The byte of a Put's answer at the place n - 1 - k. -/
theorem be_cell {w : World} {base g cap n : Nat} {X : Int} (h : w.ownsRow base 5 1 (.slice (some ⟨g, 0, none⟩) n cap) n ((be X n).map (Value.int .u8))) (k : Nat) (hk : k < n) : w.cell? ⟨g, n - 1 - k, none⟩ = some (.int .u8 (X / 2 ^ (8 * k) % 256)) := by
  rw [h.cellAt _ (by omega), List.getElem?_map, be_at X n k hk]; rfl

set_option maxHeartbeats 1000000 in
theorem numbers_any (x s : Int) (er : Nat → Addr) (w : World) (hE : Errs w er) (hs0 : 0 ≤ s) (hs1 : s ≤ 18446744073709551615) :
    Calls Tryd.prog 3 #[.int .i64 x, .int .u64 s] w fun e w' => e = .returned (.bool true) ∧ Below w.heap.size w w' := by
  go_enter Tryd.func3, Tryd.ntmps3
  go_wp2_with fail
  refine (head_any er w hE).mono ?_
  rintro e w1 ⟨rfl, hb1⟩
  go_wp2_with fail
  refine (put32_any none 0 0 x [] _ (by omega) (Lies.nil _)).mono ?_
  rintro e w2 ⟨ga, ka, rfl, ha2, hb12⟩
  have hb2 := hb1.trans (hb12.mono hb1.size)
  go_wp2_with fail
  refine (put64_any none 0 0 x [] _ (by omega) (Lies.nil _)).mono ?_
  rintro e w3 ⟨gb, kb, rfl, hb3o, hb23⟩
  have hb3 := hb2.trans (hb23.mono hb2.size)
  go_wp2_with fail
  refine (putSum_any none 0 0 s [] _ hs0 hs1 (by omega) (Lies.nil _)).mono ?_
  rintro e w4 ⟨gc, kc, rfl, hc4, hb34⟩
  have hb4 := hb3.trans (hb34.mono hb3.size)
  have hA : ∀ k, k < 4 → w4.cell? ⟨ga, 3 - k, none⟩ = some (.int .u8 (IntKind.u64.wrap x / 2 ^ (8 * k) % 256)) := fun k hk =>
    ((hb23.trans (hb34.mono hb23.size)).cell (p := ⟨ga, 3 - k, none⟩) (ha2.lt _ rfl).2).trans (be_cell ha2 k hk)
  have hB : ∀ k, k < 8 → w4.cell? ⟨gb, 7 - k, none⟩ = some (.int .u8 (IntKind.u64.wrap x / 2 ^ (8 * k) % 256)) := fun k hk =>
    (hb34.cell (p := ⟨gb, 7 - k, none⟩) (hb3o.lt _ rfl).2).trans (be_cell hb3o k hk)
  have hC : ∀ k, k < 8 → w4.cell? ⟨gc, 7 - k, none⟩ = some (.int .u8 (s / 2 ^ (8 * k) % 256)) := fun k hk => be_cell hc4 k hk
  have hka : 4 ≤ ka := (Lies.own ha2).hle
  have hkb : 8 ≤ kb := (Lies.own hb3o).hle
  have hkc : 8 ≤ kc := (Lies.own hc4).hle
  have hU := u64_wrap_bd x
  clear ha2 hb3o hc4 hb1 hb12 hb2 hb23 hb3 hb34 hE
  go_wp2
  obtain ⟨U, HU⟩ : ∃ U, U = IntKind.u64.wrap x := ⟨_, rfl⟩
  rw [← HU] at hA hB hU
  rw [← HU]
  clear HU
  go_loop [1, 9, 10] (fun vs vu vi => ∃ k : Nat, k ≤ 8 ∧ vi = .int .i64 k ∧ vu = .int .u64 (U / 2 ^ (8 * k)) ∧ vs = .int .u64 (s / 2 ^ (8 * k))) (fun _ _ i => 8 - (intOf i).toNat)
  case atStart => exact ⟨0, by omega, rfl, by simp, by simp⟩
  case round =>
    obtain ⟨k, hk, rfl, rfl, rfl⟩ := hrel
    have nU := div_next U k
    have nS := div_next s k
    have bU := div_bd U k hU.1 hU.2
    have bS := div_bd s k hs0 hs1
    by_cases hlt : k < 8
    · have gB := hB k hlt
      have gC := hC k hlt
      have gA := hA k
      have NU : Hid (U / 2 ^ (8 * k) / 256 = U / 2 ^ (8 * (k + 1))) := nU
      have NS : Hid (s / 2 ^ (8 * k) / 256 = s / 2 ^ (8 * (k + 1))) := nS
      clear nU nS hA hB hC
      generalize U / 2 ^ (8 * k) = q at *
      generalize s / 2 ^ (8 * k) = r at *
      obtain ⟨q0, q1⟩ := bU
      obtain ⟨r0, r1⟩ := bS
      by_cases h4 : k < 4
      · have gA' := gA h4
        clear gA
        go_wp2
        go_round
        case rel => exact ⟨k + 1, by omega, by go_num, by rw [NU.out], by rw [NS.out]⟩
        case measure => simp [intOf]; omega
      · clear gA
        have h4i : (4 : Int) ≤ k := by omega
        go_wp2
        go_round
        case rel => exact ⟨k + 1, by omega, by go_num, by rw [NU.out], by rw [NS.out]⟩
        case measure => simp [intOf]; omega
    · clear nU nS bU bS hA hB hC
      have h8 : (8 : Int) ≤ k := by omega
      go_wp2
      go_ret
      exact ⟨rfl, hb4⟩
end Go.Proofs.YtjpaooejkbkliaaDoor
