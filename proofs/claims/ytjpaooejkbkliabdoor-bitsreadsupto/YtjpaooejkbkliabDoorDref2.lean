/- The document's own reader: U32, U64, Sum, Flag, Err, Close by their contracts. -/
import Derived.Test.YtjpaooejkbkliabDoorDref
namespace Go.Proofs.YtjpaooejkbkliabDoor
open Go.RowKit
set_option maxRecDepth 100000

theorem grown_same (w : World) (row : Option Nat) : w.grownBy w row := ⟨rfl, rfl, rfl, Nat.le_refl _, fun _ _ _ => rfl⟩

set_option maxHeartbeats 400000 in
theorem dU32 (rb n cap pl : Nat) (ao : Option Addr) (code M : Int) (bs : List Int) (w : World) (hR : RdD w rb ao n cap pl code bs) (hp : pl ≤ n) (hn : n ≤ 200000000000000) (hby : ∀ x ∈ bs, 0 ≤ x ∧ x ≤ 255) (hM1 : M ≤ 9223372036854775807) :
    Calls Tryd.prog 17 #[.pointer (some ⟨rb, 0, none⟩), .int .i64 M] w fun e w' => e = .returned (.int .i64 (rdNum 4 n bs pl code M).1) ∧ WentD w w' rb ao n cap (rdNum 4 n bs pl code M).2.1 (rdNum 4 n bs pl code M).2.2 bs := by
  have hb := dbounded_any rb n cap pl 4 ao code M bs w hR hp (by omega) (by omega) hn hby hM1
  generalize rdNum 4 n bs pl code M = q at *
  go_enter Tryd.func17, Tryd.ntmps17
  go_wp2_with (go_at_call 39; refine hb.mono ?_; rintro e w1 ⟨rfl, hw1⟩)
  go_ret
  exact ⟨rfl, hw1⟩
set_option maxHeartbeats 400000 in
theorem dU64 (rb n cap pl : Nat) (ao : Option Addr) (code M : Int) (bs : List Int) (w : World) (hR : RdD w rb ao n cap pl code bs) (hp : pl ≤ n) (hn : n ≤ 200000000000000) (hby : ∀ x ∈ bs, 0 ≤ x ∧ x ≤ 255) (hM1 : M ≤ 9223372036854775807) :
    Calls Tryd.prog 19 #[.pointer (some ⟨rb, 0, none⟩), .int .i64 M] w fun e w' => e = .returned (.int .i64 (rdNum 8 n bs pl code M).1) ∧ WentD w w' rb ao n cap (rdNum 8 n bs pl code M).2.1 (rdNum 8 n bs pl code M).2.2 bs := by
  have hb := dbounded_any rb n cap pl 8 ao code M bs w hR hp (by omega) (by omega) hn hby hM1
  generalize rdNum 8 n bs pl code M = q at *
  go_enter Tryd.func19, Tryd.ntmps19
  go_wp2_with (go_at_call 39; refine hb.mono ?_; rintro e w1 ⟨rfl, hw1⟩)
  go_ret
  exact ⟨rfl, hw1⟩

set_option maxHeartbeats 800000 in
theorem dSum (rb n cap pl : Nat) (ao : Option Addr) (code : Int) (bs : List Int) (w : World) (hR : RdD w rb ao n cap pl code bs) (hp : pl ≤ n) (hn : n ≤ 200000000000000) (hby : ∀ x ∈ bs, 0 ≤ x ∧ x ≤ 255) :
    Calls Tryd.prog 21 #[.pointer (some ⟨rb, 0, none⟩)] w fun e w' => e = .returned (.int .u64 (rdSum n bs pl code).1) ∧ WentD w w' rb ao n cap (rdSum n bs pl code).2.1 (rdSum n bs pl code).2.2 bs := by
  unfold rdSum
  by_cases hc : code ≠ 0
  · simp only [if_pos hc]
    have hb := dnumber_held rb n cap 8 ao pl code bs w hR (by simpa using hc)
    go_enter Tryd.func21, Tryd.ntmps21
    go_wp2_with (go_at_call 43; refine hb.mono ?_; rintro e w1 ⟨rfl, hw1⟩; subst w1)
    go_ret
    exact ⟨rfl, hR, grown_same _ _⟩
  · obtain rfl : code = 0 := by omega
    simp only [if_neg hc]
    by_cases hk : n < pl + 8
    · simp only [if_pos hk]
      have hb := dnumber_short rb n cap pl 8 ao bs w hR hp hk hn (by omega)
      go_enter Tryd.func21, Tryd.ntmps21
      go_wp2_with (go_at_call 43; refine hb.mono ?_; rintro e w1 ⟨rfl, hw1⟩)
      go_ret
      exact ⟨rfl, hw1⟩
    · simp only [if_neg hk]
      have hb := dnumber_ok rb n cap pl 8 ao bs w hR (by omega) (by omega) (by omega) hn hby
      have f1 := hR.f 1
      have c1 := hR.c1
      have hpk : (pl : Int) + 8 ≤ 200000000000000 := by omega
      have HSET : Hid (∀ m, RdD ((w.drewN m).setCell ⟨rb, 1, none⟩ (.int .i64 ((pl : Int) + 8))) rb ao n cap ((pl : Int) + 8) 0 bs) := fun m => (hR.drewN m).set1 ((pl : Int) + 8)
      generalize val ((bs.drop pl).take 8) = V at *
      go_enter Tryd.func21, Tryd.ntmps21
      go_wp2_with (go_at_call 43; refine hb.mono ?_; rintro e w1 ⟨rfl, m, hw1⟩; subst w1)
      go_ret
      refine ⟨rfl, ?_, grown_trans (grown_drewN _ _ _) (grown_setCell _ _ _ _)⟩
      have := HSET.out m
      rwa [show ((pl + 8 : Nat) : Int) = (pl : Int) + 8 by omega]

set_option maxHeartbeats 800000 in
theorem dFlag (rb n cap pl : Nat) (ao : Option Addr) (code : Int) (bs : List Int) (w : World) (hR : RdD w rb ao n cap pl code bs) (hp : pl ≤ n) (hn : n ≤ 200000000000000) (hby : ∀ x ∈ bs, 0 ≤ x ∧ x ≤ 255) :
    Calls Tryd.prog 23 #[.pointer (some ⟨rb, 0, none⟩)] w fun e w' => e = .returned (.bool (rdFlag n bs pl code).1) ∧ WentD w w' rb ao n cap (rdFlag n bs pl code).2.1 (rdFlag n bs pl code).2.2 bs := by
  unfold rdFlag
  by_cases hc : code ≠ 0
  · simp only [if_pos hc]
    have hb := dnumber_held rb n cap 4 ao pl code bs w hR (by simpa using hc)
    go_enter Tryd.func23, Tryd.ntmps23
    go_wp2_with (go_at_call 43; refine hb.mono ?_; rintro e w1 ⟨rfl, hw1⟩; subst w1)
    go_ret
    exact ⟨rfl, hR, grown_same _ _⟩
  · obtain rfl : code = 0 := by omega
    simp only [if_neg hc]
    by_cases hk : n < pl + 4
    · simp only [if_pos hk]
      have hb := dnumber_short rb n cap pl 4 ao bs w hR hp hk hn (by omega)
      go_enter Tryd.func23, Tryd.ntmps23
      go_wp2_with (go_at_call 43; refine hb.mono ?_; rintro e w1 ⟨rfl, hw1⟩)
      go_ret
      exact ⟨rfl, hw1⟩
    · simp only [if_neg hk]
      have hb := dnumber_ok rb n cap pl 4 ao bs w hR (by omega) (by omega) (by omega) hn hby
      have f1 := hR.f 1
      have c1 := hR.c1
      have f2 := hR.f 2
      have c2 := hR.c2
      have hpk : (pl : Int) + 4 ≤ 200000000000000 := by omega
      have hV0 := (val_take_bd bs pl 4 hby).1
      have HSET : Hid (∀ m, RdD ((w.drewN m).setCell ⟨rb, 1, none⟩ (.int .i64 ((pl : Int) + 4))) rb ao n cap ((pl : Int) + 4) 0 bs) := fun m => (hR.drewN m).set1 ((pl : Int) + 4)
      generalize val ((bs.drop pl).take 4) = V at *
      by_cases hv : 1 < V
      · simp only [if_pos hv]
        go_enter Tryd.func23, Tryd.ntmps23
        go_wp2_with (go_at_call 43; refine hb.mono ?_; rintro e w1 ⟨rfl, m, hw1⟩; subst w1)
        go_ret
        exact ⟨rfl, (hR.drewN m).set2 13, grown_trans (grown_drewN _ _ _) (grown_setCell _ _ _ _)⟩
      · simp only [if_neg hv]
        have h01 : V = 0 ∨ V = 1 := by omega
        clear hv hV0
        rcases h01 with rfl | rfl
        all_goals
          go_enter Tryd.func23, Tryd.ntmps23
          go_wp2_with (go_at_call 43; refine hb.mono ?_; rintro e w1 ⟨rfl, m, hw1⟩; subst w1)
          go_ret
          refine ⟨rfl, ?_, grown_trans (grown_drewN _ _ _) (grown_setCell _ _ _ _)⟩
          have hfin := HSET.out m
          rwa [show ((pl + 4 : Nat) : Int) = (pl : Int) + 4 by omega]

set_option maxHeartbeats 400000 in
theorem dErr (rb n cap : Nat) (ao : Option Addr) (pl code : Int) (bs : List Int) (w : World) (hR : RdD w rb ao n cap pl code bs) :
    Calls Tryd.prog 29 #[.pointer (some ⟨rb, 0, none⟩)] w fun e w' => e = .returned (.tuple #[.int .i64 code, .int .i64 pl]) ∧ ∃ m, w' = w.drewN m := by
  have c1 := hR.c1
  have c2 := hR.c2
  go_enter Tryd.func29, Tryd.ntmps29
  go_wp2
  go_quiet (fail)
  go_wp2
  go_ret2
  exact ⟨rfl, _, rfl⟩

set_option maxHeartbeats 800000 in
theorem dClose (rb n cap pl : Nat) (ao : Option Addr) (code : Int) (bs : List Int) (w : World) (hR : RdD w rb ao n cap pl code bs) :
    Calls Tryd.prog 31 #[.pointer (some ⟨rb, 0, none⟩)] w fun e w' => e = .returned (.int .i64 (rdClose n pl code)) ∧ WentD w w' rb ao n cap pl (rdClose n pl code) bs := by
  have c0 := hR.c0
  have c1 := hR.c1
  have c2 := hR.c2
  have f2 := hR.f 2
  unfold rdClose
  by_cases hc : code = 0
  · subst hc
    by_cases hp : pl < n
    · rw [if_pos ⟨rfl, hp⟩]
      have hpi : decide ((pl : Int) < (n : Int)) = true := by simpa using hp
      go_enter Tryd.func31, Tryd.ntmps31
      go_wp2
      go_quiet (fail)
      go_wp2
      go_ret
      exact ⟨rfl, (hR.drewN _).set2 16, grown_trans (grown_drewN _ _ _) (grown_setCell _ _ _ _)⟩
    · rw [if_neg (fun h => hp h.2)]
      have hpi : decide ((pl : Int) < (n : Int)) = false := by simp; omega
      go_enter Tryd.func31, Tryd.ntmps31
      go_wp2
      go_quiet (fail)
      go_wp2
      go_ret
      exact ⟨rfl, hR.drewN _, grown_drewN _ _ _⟩
  · rw [if_neg (fun h => hc h.1)]
    have hci : (code == 0) = false := by simpa using hc
    go_enter Tryd.func31, Tryd.ntmps31
    go_wp2
    go_quiet (fail)
    go_wp2
    go_ret
    exact ⟨rfl, hR.drewN _, grown_drewN _ _ _⟩
end Go.Proofs.YtjpaooejkbkliabDoor
