/- The document's own answers (annexref2: Step, More, Sum, Back) by their contracts. -/
import Derived.Test.YtnnebmgiifnckabMore
namespace Go.Proofs.Ytnnebmgiifnckab
open Go.RowKit
set_option maxRecDepth 100000

set_option maxHeartbeats 400000 in
theorem rstep_any (h x : Int) (w : World) (hx : By x) :
    Calls Try.prog 24 #[.int .u64 h, .int .u8 x] w fun e w' => e = .returned (.int .u64 (stp h x)) ∧ w' = w := by
  have h1 := hx.1; have h2 := hx.2
  go_enter Try.func24, Try.ntmps24
  go_wp2
  go_ret
  exact ⟨rfl, rfl⟩

set_option maxHeartbeats 400000 in
theorem rmore_pos (h : Int) (b o c n : Nat) (bs : List Int) (w : World) (hn : n ≤ 9223372036854775807) (hl : bs.length = n) (hby : ∀ x ∈ bs, By x)
    (hc : ∀ t, t < n → w.cell? ⟨b, o + t, none⟩ = some (.int .u8 (bs.getD t 0))) :
    Calls Try.prog 13 #[.int .u64 h, .slice (some ⟨b, o, none⟩) n c] w fun e w' => e = .returned (.int .u64 (fwd h bs)) ∧ w' = w := by
  have hni : (n : Int) ≤ 9223372036854775807 := by omega
  go_enter Try.func13, Try.ntmps13
  go_wp2
  go_loopw [0, 5] (fun g i wr => ∃ k : Nat, k ≤ n ∧ i = .int .i64 k ∧ g = .int .u64 (fwd h (bs.take k)) ∧ wr = w) (fun _ i _ => n - (intOf i).toNat)
  case atStart => exact ⟨0, Nat.zero_le _, rfl, by simp [fwd], rfl⟩
  case round =>
    obtain ⟨k, hk, rfl, rfl, hwr⟩ := hrel
    subst wr
    by_cases hlt : k < n
    · have hck := hc k hlt
      have hx := by_getD hby (show k < bs.length by omega)
      have hs : fwd h (bs.take (k + 1)) = stp (fwd h (bs.take k)) (bs.getD k 0) := by
        rw [take_succ_getD bs (by omega), fwd_append]; rfl
      have HS : Hid _ := hs
      clear hs
      clear hc hby
      generalize fwd h (bs.take k) = g at *
      generalize bs.getD k 0 = x at *
      go_wp2_with (go_at_call 24; refine (rstep_any _ _ _ hx).mono ?_; rintro e w1 ⟨rfl, hw1⟩; subst w1)
      go_roundw
      case rel => exact ⟨k + 1, by omega, by go_num, by rw [HS.out], by trivial⟩
      case measure => simp [intOf]; omega
    · clear hc hby
      go_wp2
      go_ret
      rw [List.take_of_length_le (by omega)]
      exact ⟨rfl, rfl⟩

set_option maxHeartbeats 400000 in
theorem rmore_zero (h : Int) (ao : Option Addr) (c : Nat) (w : World) :
    Calls Try.prog 13 #[.int .u64 h, .slice ao 0 c] w fun e w' => e = .returned (.int .u64 h) ∧ w' = w := by
  go_enter Try.func13, Try.ntmps13
  go_wp2
  refine wp_loop_rounds 1 ?_
  rw [rounds_succ]
  go_wp2
  go_ret
  exact ⟨rfl, rfl⟩

theorem rmore_any (h : Int) (ao : Option Addr) (n c : Nat) (bs : List Int) (w : World) (hn : n ≤ 9223372036854775807) (hL : Lies w ao n c bs) (hby : ∀ x ∈ bs, By x) :
    Calls Try.prog 13 #[.int .u64 h, .slice ao n c] w fun e w' => e = .returned (.int .u64 (fwd h bs)) ∧ w' = w := by
  by_cases h0 : 0 < n
  · obtain ⟨b, o, rfl, hc⟩ := hL.at h0
    exact rmore_pos h b o c n bs w hn hL.hlen hby hc
  · obtain rfl : n = 0 := by omega
    obtain rfl := List.eq_nil_of_length_eq_zero hL.hlen
    exact rmore_zero h ao c w

set_option maxHeartbeats 400000 in
theorem rsum_any (ao : Option Addr) (n c : Nat) (bs : List Int) (w : World) (hn : n ≤ 9223372036854775807) (hL : Lies w ao n c bs) (hby : ∀ x ∈ bs, By x) :
    Calls Try.prog 11 #[.slice ao n c] w fun e w' => e = .returned (.int .u64 (fwd 14695981039346656037 bs)) ∧ w' = w := by
  go_enter Try.func11, Try.ntmps11
  go_wp2_with (go_at_call 13; refine (rmore_any _ ao n c bs _ hn hL hby).mono ?_; rintro e w1 ⟨rfl, hw1⟩; subst w1)
  go_ret
  exact ⟨rfl, rfl⟩

theorem und_is (h x : Int) : und h x = bits .xor .u64 (IntKind.u64.wrap (h * 14886173955864302971)) x := rfl

set_option maxHeartbeats 400000 in
theorem rback_pos (h : Int) (b o c n : Nat) (bs : List Int) (w : World) (hn : n ≤ 9223372036854775807) (hl : bs.length = n) (hby : ∀ x ∈ bs, By x)
    (hc : ∀ t, t < n → w.cell? ⟨b, o + t, none⟩ = some (.int .u8 (bs.getD t 0))) :
    Calls Try.prog 15 #[.int .u64 h, .slice (some ⟨b, o, none⟩) n c] w fun e w' => e = .returned (.int .u64 (bwd h bs)) ∧ w' = w := by
  have hni : (n : Int) ≤ 9223372036854775807 := by omega
  go_enter Try.func15, Try.ntmps15
  go_wp2
  go_loopw [0, 5] (fun g i wr => ∃ k : Nat, k ≤ n ∧ i = .int .i64 ((k : Int) - 1) ∧ g = .int .u64 (bwd h (bs.drop k)) ∧ wr = w) (fun _ i _ => (intOf i + 1).toNat)
  case atStart => exact ⟨n, Nat.le_refl _, rfl, by simp [bwd, ← hl], rfl⟩
  case round =>
    obtain ⟨k, hk, rfl, rfl, hwr⟩ := hrel
    subst wr
    by_cases hlt : 0 < k
    · obtain ⟨k, rfl⟩ : ∃ j, k = j + 1 := ⟨k - 1, by omega⟩
      have hck := hc k (by omega)
      have hx := by_getD hby (show k < bs.length by omega)
      have hx1 := hx.1
      have hx2 := hx.2
      have hkn : (k : Int) < n := by omega
      have hs : bwd h (bs.drop k) = und (bwd h (bs.drop (k + 1))) (bs.getD k 0) := by
        rw [drop_getD bs (by omega)]; rfl
      rw [und_is] at hs
      have HS : Hid _ := hs
      clear hs
      clear hc hby hx
      generalize bwd h (bs.drop (k + 1)) = g at *
      generalize bs.getD k 0 = x at *
      go_wp2
      go_roundw
      case rel => exact ⟨k, by omega, by go_num, by rw [HS.out], by trivial⟩
      case measure => simp [intOf]
    · clear hc hby
      have hk0 : (k : Int) ≤ 0 := by omega
      go_wp2
      go_ret
      obtain rfl : k = 0 := by omega
      exact ⟨rfl, rfl⟩

set_option maxHeartbeats 400000 in
theorem rback_zero (h : Int) (ao : Option Addr) (c : Nat) (w : World) :
    Calls Try.prog 15 #[.int .u64 h, .slice ao 0 c] w fun e w' => e = .returned (.int .u64 h) ∧ w' = w := by
  go_enter Try.func15, Try.ntmps15
  go_wp2
  refine wp_loop_rounds 1 ?_
  rw [rounds_succ]
  go_wp2
  go_ret
  exact ⟨rfl, rfl⟩

theorem rback_any (h : Int) (ao : Option Addr) (n c : Nat) (bs : List Int) (w : World) (hn : n ≤ 9223372036854775807) (hL : Lies w ao n c bs) (hby : ∀ x ∈ bs, By x) :
    Calls Try.prog 15 #[.int .u64 h, .slice ao n c] w fun e w' => e = .returned (.int .u64 (bwd h bs)) ∧ w' = w := by
  by_cases h0 : 0 < n
  · obtain ⟨b, o, rfl, hc⟩ := hL.at h0
    exact rback_pos h b o c n bs w hn hL.hlen hby hc
  · obtain rfl : n = 0 := by omega
    obtain rfl := List.eq_nil_of_length_eq_zero hL.hlen
    exact rback_zero h ao c w
end Go.Proofs.Ytnnebmgiifnckab
