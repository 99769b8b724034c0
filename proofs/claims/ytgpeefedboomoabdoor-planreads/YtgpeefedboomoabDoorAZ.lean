/- annexref.AllZero by its contract. -/
import Derived.Test.YtgpeefedboomoabDoorSame
namespace Go.Proofs.YtgpeefedboomoabDoor
open Go.RowKit
set_option maxRecDepth 100000

set_option maxHeartbeats 400000 in
theorem zero_pos (b o c n : Nat) (xs : List Int) (w : World) (hn : n ≤ 200000000000000) (hl : xs.length = n)
    (ha : ∀ t, t < n → w.cell? ⟨b, o + t, none⟩ = some (.int .u8 (xs.getD t 0))) :
    Calls Tryd.prog 38 #[.slice (some ⟨b, o, none⟩) n c] w fun e w' => e = .returned (.bool (decide (∀ t, t < n → xs.getD t 0 = 0))) ∧ w' = w := by
  have hni : (n : Int) ≤ 200000000000000 := by omega
  go_enter Tryd.func38, Tryd.ntmps38
  go_wp2
  go_loopw [3] (fun i wr => ∃ k : Nat, k ≤ n ∧ i = .int .i64 k ∧ wr = w ∧ (∀ t, t < k → xs.getD t 0 = 0)) (fun i _ => n - (intOf i).toNat)
  case atStart => exact ⟨0, Nat.zero_le _, rfl, rfl, fun t ht => by omega⟩
  case round =>
    obtain ⟨k, hk, rfl, hwr, hz⟩ := hrel
    subst wr
    have HZ : Hid (∀ t, t < k → xs.getD t 0 = 0) := hz
    clear hz
    by_cases hlt : k < n
    · have ga := ha k hlt
      have hki : (k : Int) < n := by omega
      clear ha
      by_cases hx : xs.getD k 0 = 0
      · have hxb : (xs.getD k 0 != 0) = false := by simpa using hx
        have HX : Hid (xs.getD k 0 = 0) := hx
        clear hx
        generalize hC : xs.getD k 0 = C at ga hxb
        clear hC
        go_wp2
        go_roundw
        case rel =>
          refine ⟨k + 1, by omega, by go_num, by trivial, fun t ht => ?_⟩
          by_cases h : t < k
          · exact HZ.out t h
          · obtain rfl : t = k := by omega
            exact HX.out
        case measure => simp [intOf]; omega
      · have hxb : (xs.getD k 0 != 0) = true := by simpa using hx
        have HX : Hid (¬ xs.getD k 0 = 0) := hx
        clear hx
        generalize hC : xs.getD k 0 = C at ga hxb
        clear hC
        go_wp2
        go_ret
        refine ⟨?_, rfl⟩
        rw [decide_eq_false (fun h => HX.out (h k hlt))]
        rfl
    · have hki : (n : Int) ≤ k := by omega
      clear ha
      go_wp2
      go_ret
      refine ⟨?_, rfl⟩
      rw [decide_eq_true (fun t ht => HZ.out t (by omega))]
      rfl

set_option maxHeartbeats 400000 in
theorem zero_nil (ao : Option Addr) (c : Nat) (w : World) :
    Calls Tryd.prog 38 #[.slice ao 0 c] w fun e w' => e = .returned (.bool true) ∧ w' = w := by
  go_enter Tryd.func38, Tryd.ntmps38
  go_wp2
  refine wp_loop_rounds 1 ?_
  rw [rounds_succ]
  go_wp2
  go_ret
  exact ⟨rfl, rfl⟩

/-- AllZero, of any list. -/
theorem zero_any (ao : Option Addr) (n c : Nat) (xs : List Int) (w : World) (hn : n ≤ 200000000000000) (hL : Lies w ao n c xs) :
    Calls Tryd.prog 38 #[.slice ao n c] w fun e w' => e = .returned (.bool (decide (∀ t, t < n → xs.getD t 0 = 0))) ∧ w' = w := by
  by_cases h0 : 0 < n
  · obtain ⟨b, o, rfl, hc⟩ := hL.at h0
    exact zero_pos b o c n xs w hn hL.hlen hc
  · obtain rfl : n = 0 := by omega
    refine (zero_nil ao c w).mono ?_
    rintro e w' ⟨rfl, rfl⟩
    exact ⟨by simp, rfl⟩
end Go.Proofs.YtgpeefedboomoabDoor
