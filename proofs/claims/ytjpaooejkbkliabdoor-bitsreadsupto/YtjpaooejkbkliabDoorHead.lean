/- Err, num and head by their contracts: head answers true. -/
import Derived.Test.YtjpaooejkbkliabDoorU32
import Derived.Test.YtjpaooejkbkliabDoorDref3
import Derived.Test.YtjpaooejkbkliabDoorPutB
namespace Go.Proofs.YtjpaooejkbkliabDoor
open Go.RowKit
set_option maxRecDepth 100000

set_option maxHeartbeats 400000 in
theorem num_id (x : Int) (w : World) : Calls Tryd.prog 15 #[.int .i64 x] w fun e w' => e = .returned (.int .i64 x) ∧ w' = w := by
  go_enter Tryd.func15, Tryd.ntmps15
  go_wp2
  go_ret
  exact ⟨rfl, rfl⟩

theorem lies_new (w : World) (l : List Int) (n : Nat) (hl : l.length = n) (C : Array Value) (hC : C = (l.map (Value.int .u8)).toArray) : Lies (w.alloc (.cells C 5)) (some ⟨w.heap.size, 0, none⟩) n n l := by
  subst hC
  refine ⟨hl, Nat.le_refl _, (fun h => by cases h), fun ad had t u hu => ?_⟩
  obtain rfl := Option.some.inj had
  rw [Addr.add_lit, Nat.zero_add, World.cell?_alloc_at _ _ _ _ rfl]
  simpa using hu

def headBytes : List Int := [7, 0, 0, 1, 2, 0, 0, 0, 3, 97, 98, 99, 0]
theorem head_bytes : [7] ++ be (IntKind.u64.wrap 258) 4 ++ be (3 : Nat) 4 ++ nums ⟨#[97, 98, 99]⟩ ++ List.replicate (padN 3) 0 = headBytes := by decide
theorem head_first : rdNum 4 13 headBytes 0 0 4294967296 = (117440513, 4, 0) := by decide
theorem head_second : rdNum 4 13 headBytes 4 0 257 = (0, 4, 12) := by decide
theorem head_small : ∀ x ∈ headBytes, 0 ≤ x ∧ x ≤ 255 := by decide

theorem put_abc (g k : Nat) (w : World) (hL : Lies w (some ⟨g, 0, none⟩) 5 k ([7] ++ be (IntKind.u64.wrap 258) 4)) :
    Calls Tryd.prog 11 #[.slice (some ⟨g, 0, none⟩) 5 k, .string ⟨#[97, 98, 99]⟩] w fun e w' => Made w e w' 13 headBytes := by
  have h := putText_any (some ⟨g, 0, none⟩) 5 k _ ⟨#[97, 98, 99]⟩ w (by decide) hL
  have e1 : (⟨#[97, 98, 99]⟩ : ByteArray).size = 3 := rfl
  rw [e1, head_bytes] at h
  exact h

theorem same_true (ao bo : Option Addr) (n c1 c2 : Nat) (xs : List Int) (w : World) (hn : n ≤ 200000000000000) (hA : Lies w ao n c1 xs) (hB : Lies w bo n c2 xs) :
    Calls Tryd.prog 7 #[.slice ao n c1, .slice bo n c2] w fun e w' => e = .returned (.bool true) ∧ Below w.heap.size w w' := by
  refine (same_any ao bo n n c1 c2 xs xs w hn hA hB).mono ?_
  rintro e w' ⟨rfl, m, rfl⟩
  exact ⟨by simp, below_drewN (Below.refl _ _) m⟩

set_option maxHeartbeats 1000000 in
theorem head_any (er : Nat → Addr) (w : World) (hE : Errs w er) :
    Calls Tryd.prog 4 #[] w fun e w' => e = .returned (.bool true) ∧ Below w.heap.size w w' := by
  have hnil : ∀ (a : Addr) (w : World), (binOp BinOp.eql 26 (.pointer (some a)) (.pointer none)).run Tryd.prog w = .ok (.bool false) w := fun _ _ => by kernel_rfl
  go_enter Tryd.func4, Tryd.ntmps4
  go_wp2_with fail
  refine (put32_any _ 1 1 258 [7] _ (by omega) (lies_new w [7] 1 rfl _ rfl)).mono ?_
  rintro e w1 ⟨g1, k1, rfl, hown1, hb1⟩
  have hb01 : Below w.heap.size w w1 := ((Below.refl _ _).alloc (Nat.le_refl _) _).trans (hb1.mono (by simp))
  have hL1 := Lies.own hown1
  clear hown1 hb1
  go_wp2_with fail
  refine (put_abc g1 k1 _ hL1).mono ?_
  rintro e w2 ⟨g2, k2, rfl, hown2, hb2⟩
  have hb02 : Below w.heap.size w w2 := hb01.trans (hb2.mono hb01.size)
  have hL2 := Lies.own hown2
  clear hL1 hb01 hb2 hown2
  go_wp2_with fail
  refine (same_true _ _ 13 k2 13 headBytes _ (by omega) (hL2.grown (World.grownBy_alloc _ _ none) (fun _ _ => by simp)) (lies_new w2 headBytes 13 rfl _ rfl)).mono ?_
  rintro e w3 ⟨rfl, hb3⟩
  have hb23 : Below w2.heap.size w2 w3 := ((Below.refl _ _).alloc (Nat.le_refl _) _).trans (hb3.mono (by simp))
  have hb03 : Below w.heap.size w w3 := hb02.trans (hb23.mono hb02.size)
  have hL3 := hL2.below hb23 (Nat.le_refl _)
  clear hb3 hb23 hL2 hb02
  go_wp2_with fail
  refine (newReader_any _ 13 k2 headBytes _ (by omega) hL3).mono ?_
  rintro e w4 ⟨rb, g, rfl, hR4, hrb, hg, hb4⟩
  have hb04 : Below w.heap.size w w4 := hb03.trans (hb4.mono hb03.size)
  have hE4 := hE.below hb04 (Nat.le_refl _)
  have hwrb : w.heap.size ≤ rb := Nat.le_trans hb03.size hrb
  clear hb4 hL3 hb03
  go_wp2_with fail
  refine (u32_any rb g 13 13 0 0 _ headBytes er _ hR4 hE4 (by omega) (by omega) head_small (by omega)).mono ?_
  rintro e w5 ⟨he, hR5, hg5⟩
  rw [head_first] at he hR5
  subst he
  have hb05 : Below w.heap.size w w5 := hb04.grown hg5 hb04.size (fun k hk => by cases hk; exact hwrb)
  have hE5 := hE.below hb05 (Nat.le_refl _)
  clear hg5 hb04 hR4 hE4
  go_wp2_with fail
  refine (u32_any rb g 13 13 4 0 _ headBytes er _ hR5 hE5 (by omega) (by omega) head_small (by omega)).mono ?_
  rintro e w6 ⟨he, hR6, hg6⟩
  rw [head_second] at he hR6
  subst he
  have hb06 : Below w.heap.size w w6 := hb05.grown hg6 hb05.size (fun k hk => by cases hk; exact hwrb)
  clear hg6 hb05 hR5 hE5
  go_wp2_with fail
  refine (err_any rb g 13 13 _ _ headBytes _ hR6).mono ?_
  rintro e w7 ⟨rfl, m7, hw7⟩
  subst w7
  go_wp2_with (go_at_call 15; refine (num_id _ _).mono ?_; rintro e w8 ⟨rfl, hw8⟩; subst w8)
  go_ret
  exact ⟨rfl, below_drewN hb06 _⟩
end Go.Proofs.YtjpaooejkbkliabDoor
