/- annexref.AllZero by its contract; bits.Reader.Err; annexref1.NewReader. -/
import Derived.Test.YtjpaooejkbkliabDoorDref2
import Derived.Test.YtjpaooejkbkliabDoorItem
namespace Go.Proofs.YtjpaooejkbkliabDoor
open Go.RowKit
set_option maxRecDepth 100000

set_option maxHeartbeats 400000 in
theorem zero_pos (b o c n : Nat) (xs : List Int) (w : World) (hn : n ≤ 200000000000000) (hl : xs.length = n)
    (ha : ∀ t, t < n → w.cell? ⟨b, o + t, none⟩ = some (.int .u8 (xs.getD t 0))) :
    Calls Tryd.prog 48 #[.slice (some ⟨b, o, none⟩) n c] w fun e w' => e = .returned (.bool (decide (∀ t, t < n → xs.getD t 0 = 0))) ∧ w' = w := by
  have hni : (n : Int) ≤ 200000000000000 := by omega
  go_enter Tryd.func48, Tryd.ntmps48
  go_wp2
  go_loopw [3] (fun i wr => ∃ k : Nat, k ≤ n ∧ i = .int .i64 k ∧ wr = w ∧ (∀ t, t < k → xs.getD t 0 = 0)) (fun i _ => n - (intOf i).toNat)
  case atStart => exact ⟨0, Nat.zero_le _, rfl, rfl, fun t ht => by omega⟩
  case round =>
    obtain ⟨k, hk, rfl, hwr, hz⟩ := hrel
    subst wr
    have HZ : Hid (∀ t, t < k → xs.getD t 0 = 0) := hz
    clear hz
    by_cases hlt : k < n
    · have ga := ha k hlt
      have hki : (k : Int) < n := by omega
      clear ha
      by_cases hx : xs.getD k 0 = 0
      · have hxb : (xs.getD k 0 != 0) = false := by simpa using hx
        have HX : Hid (xs.getD k 0 = 0) := hx
        clear hx
        generalize hC : xs.getD k 0 = C at ga hxb
        clear hC
        go_wp2
        go_roundw
        case rel =>
          refine ⟨k + 1, by omega, by go_num, by trivial, fun t ht => ?_⟩
          by_cases h : t < k
          · exact HZ.out t h
          · obtain rfl : t = k := by omega
            exact HX.out
        case measure => simp [intOf]; omega
      · have hxb : (xs.getD k 0 != 0) = true := by simpa using hx
        have HX : Hid (¬ xs.getD k 0 = 0) := hx
        clear hx
        generalize hC : xs.getD k 0 = C at ga hxb
        clear hC
        go_wp2
        go_ret
        refine ⟨?_, rfl⟩
        rw [decide_eq_false (fun h => HX.out (h k hlt))]
        rfl
    · have hki : (n : Int) ≤ k := by omega
      clear ha
      go_wp2
      go_ret
      refine ⟨?_, rfl⟩
      rw [decide_eq_true (fun t ht => HZ.out t (by omega))]
      rfl

set_option maxHeartbeats 400000 in
theorem zero_nil (ao : Option Addr) (c : Nat) (w : World) :
    Calls Tryd.prog 48 #[.slice ao 0 c] w fun e w' => e = .returned (.bool true) ∧ w' = w := by
  go_enter Tryd.func48, Tryd.ntmps48
  go_wp2
  refine wp_loop_rounds 1 ?_
  rw [rounds_succ]
  go_wp2
  go_ret
  exact ⟨rfl, rfl⟩

/-- AllZero, of any list. -/
theorem zero_any (ao : Option Addr) (n c : Nat) (xs : List Int) (w : World) (hn : n ≤ 200000000000000) (hL : Lies w ao n c xs) :
    Calls Tryd.prog 48 #[.slice ao n c] w fun e w' => e = .returned (.bool (decide (∀ t, t < n → xs.getD t 0 = 0))) ∧ w' = w := by
  by_cases h0 : 0 < n
  · obtain ⟨b, o, rfl, hc⟩ := hL.at h0
    exact zero_pos b o c n xs w hn hL.hlen hc
  · obtain rfl : n = 0 := by omega
    refine (zero_nil ao c w).mono ?_
    rintro e w' ⟨rfl, rfl⟩
    exact ⟨by simp, rfl⟩

set_option maxHeartbeats 400000 in
theorem err_any (rb g n cap : Nat) (pl code : Int) (bs : List Int) (w : World) (hR : Rdr w rb g n cap pl code bs) :
    Calls Tryd.prog 14 #[.pointer (some ⟨rb, 0, none⟩)] w fun e w' => e = .returned (.tuple #[.int .i64 code, .int .i64 pl]) ∧ ∃ m, w' = w.drewN m := by
  have c1 := hR.c1
  have c2 := hR.c2
  go_enter Tryd.func14, Tryd.ntmps14
  go_wp2
  go_quiet (fail)
  go_wp2
  go_ret2
  exact ⟨rfl, _, rfl⟩

set_option maxHeartbeats 400000 in
theorem dNew (ao : Option Addr) (n cap : Nat) (bs : List Int) (w : World) (hn : n ≤ 140737488355328) (hL : Lies w ao n cap bs) :
    Calls Tryd.prog 8 #[.slice ao n cap] w fun e w' => ∃ rb a' c', e = .returned (.pointer (some ⟨rb, 0, none⟩)) ∧ RdD w' rb a' n c' 0 0 bs ∧ w.heap.size ≤ rb ∧ (∀ ad, a' = some ad → w.heap.size ≤ ad.block) ∧ Below w.heap.size w w' := by
  go_enter Tryd.func8, Tryd.ntmps8
  go_wp2_with (go_at_call 16; refine (bytes29_any ao n cap bs _ hn hL).mono ?_; rintro e w1 ⟨a1, c1, rfl, hown, hb⟩)
  go_ret
  have hlo : ∀ ad, a1 = some ad → w.heap.size ≤ ad.block ∧ ad.block < w1.heap.size := fun ad had => by
    subst had
    rcases hown.2 with ⟨hv, _⟩ | ⟨g, cap', cur, hv, hg, hh, _⟩
    · cases hv
    · cases hv
      exact ⟨hg, lt_of_block hh⟩
  refine ⟨w1.heap.size, a1, c1, rfl, ⟨heap_alloc_new _ _, (Lies.owned hown).boxed _, fun ad had e => ?_⟩, hb.size, fun ad had => (hlo ad had).1, hb.alloc hb.size _⟩
  have := (hlo ad had).2
  omega
end Go.Proofs.YtjpaooejkbkliabDoor
