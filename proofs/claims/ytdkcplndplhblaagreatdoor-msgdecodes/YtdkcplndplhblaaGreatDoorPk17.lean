/- annexref4: which fields a request has, what may be a name, the first four errors of a request. -/
import Derived.Test.YtdkcplndplhblaaGreatDoorPk12
namespace Go.Proofs.YtdkcplndplhblaaGreatDoor
open Go.RowKit
set_option maxRecDepth 100000

/-- The letters of a request's fields. -/
def lets (op : Int) : ByteArray := if op = 1 then ⟨#[112]⟩ else if op = 2 then ⟨#[105]⟩ else if op = 3 then ⟨#[105, 111, 108]⟩ else if op = 4 then ⟨#[105, 111, 100]⟩ else if op = 5 ∨ op = 6 ∨ op = 7 ∨ op = 8 then ⟨#[105, 110]⟩ else if op = 9 then ⟨#[105, 110, 106, 109]⟩ else if op = 10 then ⟨#[105, 108, 110]⟩ else ⟨#[]⟩
set_option maxHeartbeats 1000000 in
theorem rhas_any (op : Int) (w : World) : Calls Tryz.prog 67 #[.int .i64 op] w fun e w' => e = .returned (.string (lets op)) ∧ w' = w := by
  go_enter Tryz.func67, Tryz.ntmps67
  go_wp2
  all_goals go_ret
  all_goals simp_all [lets]
theorem inB_len (n : Nat) : inB (n : Int) 1 1024 = (decide (n ≤ 1024) && decide (0 < n)) := by
  unfold inB
  rw [Bool.and_comm]
  have h1 : ((n : Int) ≤ 1024) ↔ (n ≤ 1024) := by omega
  have h2 : ((1 : Int) ≤ n) ↔ (0 < n) := by omega
  simp only [h1, h2]
theorem rhas_is {op : Int} {s : ByteArray} (h : lets op = s) (w : World) : Calls Tryz.prog 67 #[.int .i64 op] w fun e w' => e = .returned (.string s) ∧ w' = w := by
  rw [← h]; exact rhas_any op w

set_option maxHeartbeats 1000000 in
theorem rname_any (s : ByteArray) (w : World) : Calls Tryz.prog 86 #[.string s] w fun e w' => e = .returned (.bool (nameB s)) ∧ w' = w := by
  unfold nameB
  have hc : N3.checkN (N3.bs s) = if N3.okName (N3.bs s) = true then 0 else 31 := rfl
  cases h : N3.okName (N3.bs s)
  · rw [h] at hc
    simp only [Bool.false_eq_true, if_false] at hc
    go_enter Tryz.func86, Tryz.ntmps86
    go_wp2_with (go_at_call 119; refine (N3.rcheck_any s _).mono ?_; rintro e w1 ⟨rfl, hw1⟩; subst w1; rw [hc])
    go_ret
    exact ⟨rfl, rfl⟩
  · rw [h] at hc
    simp only [if_true] at hc
    go_enter Tryz.func86, Tryz.ntmps86
    go_wp2_with (go_at_call 119; refine (N3.rcheck_any s _).mono ?_; rintro e w1 ⟨rfl, hw1⟩; subst w1; rw [hc])
    go_ret
    exact ⟨rfl, rfl⟩

set_option maxHeartbeats 2000000 in
theorem rhead_any (r : Req) (ao : Option Addr) (n c : Nat) (w : World) : Calls Tryz.prog 40 #[rqV r ao n c] w fun e w' => e = .returned (.int .i64 (rqHeadE r)) ∧ Below w.heap.size w w' := by
  unfold rqHeadE
  cases h1 : inB r.client 0 7
  · go_enter Tryz.func40, Tryz.ntmps40
    go_wp2_with (go_at_call 84; refine (rwithin_any _ _ _ _).mono ?_; rintro e w1 ⟨rfl, hw1⟩; subst w1; simp only [h1])
    go_ret
    exact ⟨rfl, newBox _ _⟩
  cases h2 : inB r.seq 1 4611686018427387904
  · go_enter Tryz.func40, Tryz.ntmps40
    go_wp2_with (go_at_call 84; refine (rwithin_any _ _ _ _).mono ?_; rintro e w1 ⟨rfl, hw1⟩; subst w1; (first | rw [h1] | rw [h2]))
    go_ret
    exact ⟨rfl, newBox _ _⟩
  have hs := inB_true h2
  have hs1 := hs.1
  have hs2 := hs.2
  cases h3 : inB r.ack 0 (r.seq - 1)
  · go_enter Tryz.func40, Tryz.ntmps40
    go_wp2_with (go_at_call 84; refine (rwithin_any _ _ _ _).mono ?_; rintro e w1 ⟨rfl, hw1⟩; subst w1; (first | rw [h1] | rw [h2] | rw [h3]))
    go_ret
    exact ⟨rfl, newBox _ _⟩
  cases h4 : inB r.epoch 0 4611686018427387904
  · go_enter Tryz.func40, Tryz.ntmps40
    go_wp2_with (go_at_call 84; refine (rwithin_any _ _ _ _).mono ?_; rintro e w1 ⟨rfl, hw1⟩; subst w1; (first | rw [h1] | rw [h2] | rw [h3] | rw [h4]))
    go_ret
    exact ⟨rfl, newBox _ _⟩
  cases h5 : inB r.op 1 10
  · go_enter Tryz.func40, Tryz.ntmps40
    go_wp2_with (go_at_call 84; refine (rwithin_any _ _ _ _).mono ?_; rintro e w1 ⟨rfl, hw1⟩; subst w1; (first | rw [h1] | rw [h2] | rw [h3] | rw [h4] | rw [h5]))
    go_ret
    exact ⟨rfl, newBox _ _⟩
  · go_enter Tryz.func40, Tryz.ntmps40
    go_wp2_with (go_at_call 84; refine (rwithin_any _ _ _ _).mono ?_; rintro e w1 ⟨rfl, hw1⟩; subst w1; (first | rw [h1] | rw [h2] | rw [h3] | rw [h4] | rw [h5]))
    go_ret
    exact ⟨rfl, newBox _ _⟩
end Go.Proofs.YtdkcplndplhblaaGreatDoor
