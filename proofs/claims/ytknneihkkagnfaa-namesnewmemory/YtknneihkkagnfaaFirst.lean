/- annexlaw3.num, annexlaw3.first. -/
import Derived.Test.YtknneihkkagnfaaJoin
import Derived.WalkKit
namespace Go.Proofs.Ytknneihkkagnfaa
open Go.RowKit
set_option maxRecDepth 100000

theorem num_any (k : Int) (w : World) : Calls Try.prog 12 #[.int .i64 k] w fun e w' => e = .returned (.int .i64 k) ∧ w' = w := by
  go_enter Try.func12, Try.ntmps12
  go_wp2
  go_ret
  exact ⟨rfl, rfl⟩

theorem check1 : checkN (bs ⟨#[97, 32, 98]⟩) = 0 := by decide
theorem check2 : checkN (bs ⟨#[97, 47, 98]⟩) = 31 := by decide
theorem splitE1 : splitE (bs ⟨#[47, 97, 47, 98]⟩) = 0 := by decide
theorem splitL1 : splitL (bs ⟨#[47, 97, 47, 98]⟩) = [[97], [98]] := by decide
theorem judge1 : judge ([(⟨#[120]⟩ : ByteArray), ⟨#[121]⟩].map bs) = 0 := by decide
theorem joinT1 : joinT ([(⟨#[120]⟩ : ByteArray), ⟨#[121]⟩].map bs) = [47, 120, 47, 121] := by decide

/-- A list that has just been written out. -/
theorem lies_two (w : World) (a b : ByteArray) : Lies (w.alloc (.cells #[.string a, .string b] 9)) (some ⟨w.heap.size, 0, none⟩) 2 2 [a, b] := by
  refine ⟨rfl, Nat.le_refl _, (fun h => by cases h), fun ad had t u hu => ?_⟩
  obtain rfl := Option.some.inj had
  have hb := World.alloc_heap_new w (.cells #[.string a, .string b] 9)
  rw [Addr.add_lit]
  simp only [World.cell?, hb]
  simpa using hu

set_option maxHeartbeats 2000000 in
theorem first_any (w : World) : Calls Try.prog 9 #[] w fun e w' => e = .returned (.bool true) ∧ Below w.heap.size w w' := by
  go_enter Try.func9, Try.ntmps9
  go_wp2_with fail
  refine (check_any _ _).mono ?_
  rintro e w1 ⟨rfl, hb1⟩
  rw [check1]
  go_wp2_with fail
  refine (check_any _ _).mono ?_
  rintro e w2 ⟨rfl, hb2⟩
  rw [check2]
  go_wp2_with fail
  refine (split_any _ _ (by decide)).mono ?_
  rintro e w3 ⟨ao, n, c, rfl, hown, hb3⟩
  rw [splitE1]
  rw [splitL1] at hown
  have hn : n = 2 := by have := hown.1; simp at this; omega
  subst hn
  go_wp2_with fail
  refine (join_any _ _ _ _ _ (by decide) (lies_two _ _ _)).mono ?_
  rintro e w4 ⟨rfl, hb4⟩
  rw [judge1, joinT1]
  have hb34 : Below w3.heap.size w3 w4 := ((Below.refl _ w3).alloc (Nat.le_refl _) _).trans (hb4.mono (by simp))
  have hl := (Lies.owned (xs := [⟨#[97]⟩, ⟨#[98]⟩]) hown).below hb34 (Nat.le_refl _)
  have hl' : Lies (w4.alloc (.cells #[.string ⟨#[97]⟩, .string ⟨#[98]⟩] 9)) ao 2 c [⟨#[97]⟩, ⟨#[98]⟩] := hl.below ((Below.refl _ w4).alloc (Nat.le_refl _) _) (Nat.le_refl _)
  go_wp2_with fail
  refine (same_any _ _ _ _ _ _ _ _ _ (by decide) hl' (lies_two _ _ _)).mono ?_
  rintro e w5 ⟨rfl, m, rfl⟩
  rw [decide_eq_true rfl]
  have hb : Below w.heap.size w ((w4.alloc (.cells #[.string ⟨#[97]⟩, .string ⟨#[98]⟩] 9)).drewN m) := by
    have h12 := hb1.trans (hb2.mono hb1.size)
    have h13 := h12.trans (hb3.mono h12.size)
    have h14 := h13.trans (hb34.mono h13.size)
    have h15 := h14.alloc h14.size (.cells #[.string ⟨#[97]⟩, .string ⟨#[98]⟩] 9)
    exact ⟨h15.os, h15.tape, h15.output, h15.size, h15.block⟩
  clear hl hl' hb34 hb1 hb2 hb3 hb4 hown
  go_wp2_with (first | (go_at_call 12; refine (num_any _ _).mono ?_; rintro e w' ⟨rfl, rfl⟩))
  go_ret
  exact ⟨rfl, hb⟩
end Go.Proofs.Ytknneihkkagnfaa
