/- sum.lowestFirst and sum.onlyLowest by their contracts. -/
import Derived.Test.YtnnebmgiifnckabMath
import Derived.ChangeKeysEq
namespace Go.Proofs.Ytnnebmgiifnckab
open Go.RowKit
set_option maxRecDepth 100000

/-- The eight bytes of a number, lowest first. -/
abbrev low8 (x : Int) : Array Value := #[.int .u8 (x % 256), .int .u8 (x / 256 % 256), .int .u8 (x / 65536 % 256), .int .u8 (x / 16777216 % 256), .int .u8 (x / 4294967296 % 256), .int .u8 (x / 1099511627776 % 256), .int .u8 (x / 281474976710656 % 256), .int .u8 (x / 72057594037927936)]

set_option maxHeartbeats 400000 in
theorem lowest_any (x : Int) (w : World) (hx : U x) :
    Calls Try.prog 30 #[.int .u64 x] w fun e w' => e = .returned (.agg (low8 x)) ∧ Below w.heap.size w w' := by
  have h1 := hx.1; have h2 := hx.2
  go_enter Try.func30, Try.ntmps30
  go_wp2
  refine wp_loop_rounds 9 ?_
  iterate 9 (rw [rounds_succ]; go_wp2)
  refine bodyPost_ret (v := .agg (low8 x)) (by simp [results, Try.results30, go_sem]) rfl ⟨rfl, ?_⟩
  exact ((Below.refl _ _).alloc (Nat.le_refl _) _).alloc (by simp) _

theorem plain5 : Try.prog.plainKey 5 = true := by kernel_rfl
theorem cellsOf5 : Try.prog.cellsOf 5 = 1 := by kernel_rfl

theorem item_eq (w : World) (d : Nat) (xs ys : Array Value) (is : List Nat) (i : Nat) (a b : Int) (hx : xs[i]? = some (.int .u8 a)) (hy : ys[i]? = some (.int .u8 b)) :
    (Op.eqItems (d + 1) 5 1 xs ys (i :: is)).run Try.prog w = if a = b then (Op.eqItems (d + 1) 5 1 xs ys is).run Try.prog w else .ok false w := by
  simp only [Op.eqItems, Sem.run_bind, Nat.mul_one, run_part_plain w plain5 hx, run_part_plain w plain5 hy, Result.andThen_ok, run_equalIn_int w d 5 .u8 .u8 a b Try.underlying5]
  by_cases h : a = b
  · simp [h]
  · simp [h]

theorem eq8_same (w : World) (a : Int) : (Op.equalIn 10000 46 (.agg #[.int .u8 a, .int .u8 0, .int .u8 0, .int .u8 0, .int .u8 0, .int .u8 0, .int .u8 0, .int .u8 0]) (.agg #[.int .u8 a, .int .u8 0, .int .u8 0, .int .u8 0, .int .u8 0, .int .u8 0, .int .u8 0, .int .u8 0])).run Try.prog w = .ok true w := by
  obtain ⟨i0, hi, _⟩ := info_parts Try.info5
  rw [run_equalIn_array w 9999 _ _ Try.underlying46 hi, cellsOf5, show List.range 8 = [0, 1, 2, 3, 4, 5, 6, 7] from rfl,
    item_eq w 9998 _ _ _ 0 a a rfl rfl, if_pos rfl, item_eq w 9998 _ _ _ 1 0 0 rfl rfl, if_pos rfl, item_eq w 9998 _ _ _ 2 0 0 rfl rfl, if_pos rfl, item_eq w 9998 _ _ _ 3 0 0 rfl rfl, if_pos rfl,
    item_eq w 9998 _ _ _ 4 0 0 rfl rfl, if_pos rfl, item_eq w 9998 _ _ _ 5 0 0 rfl rfl, if_pos rfl, item_eq w 9998 _ _ _ 6 0 0 rfl rfl, if_pos rfl, item_eq w 9998 _ _ _ 7 0 0 rfl rfl, if_pos rfl]
  simp [Op.eqItems]

theorem eq8_other (w : World) (a b1 b2 b3 b4 b5 b6 b7 : Int) (h : ¬ (b1 = 0 ∧ b2 = 0 ∧ b3 = 0 ∧ b4 = 0 ∧ b5 = 0 ∧ b6 = 0 ∧ b7 = 0)) : (Op.equalIn 10000 46 (.agg #[.int .u8 a, .int .u8 b1, .int .u8 b2, .int .u8 b3, .int .u8 b4, .int .u8 b5, .int .u8 b6, .int .u8 b7]) (.agg #[.int .u8 a, .int .u8 0, .int .u8 0, .int .u8 0, .int .u8 0, .int .u8 0, .int .u8 0, .int .u8 0])).run Try.prog w = .ok false w := by
  obtain ⟨i0, hi, _⟩ := info_parts Try.info5
  rw [run_equalIn_array w 9999 _ _ Try.underlying46 hi, cellsOf5, show List.range 8 = [0, 1, 2, 3, 4, 5, 6, 7] from rfl,
    item_eq w 9998 _ _ _ 0 a a rfl rfl, if_pos rfl, item_eq w 9998 _ _ _ 1 b1 0 rfl rfl, item_eq w 9998 _ _ _ 2 b2 0 rfl rfl, item_eq w 9998 _ _ _ 3 b3 0 rfl rfl,
    item_eq w 9998 _ _ _ 4 b4 0 rfl rfl, item_eq w 9998 _ _ _ 5 b5 0 rfl rfl, item_eq w 9998 _ _ _ 6 b6 0 rfl rfl, item_eq w 9998 _ _ _ 7 b7 0 rfl rfl]
  by_cases h1 : b1 = 0 <;> by_cases h2 : b2 = 0 <;> by_cases h3 : b3 = 0 <;> by_cases h4 : b4 = 0 <;> by_cases h5 : b5 = 0 <;> by_cases h6 : b6 = 0 <;> by_cases h7 : b7 = 0 <;> simp_all

set_option maxHeartbeats 400000 in
theorem only_low (x : Int) (w : World) (h1 : 0 ≤ x) (h2 : x < 256) :
    Calls Try.prog 29 #[.int .u64 x] w fun e w' => e = .returned (.tuple #[.int .u8 x, .bool true]) ∧ Below w.heap.size w w' := by
  have hl : low8 x = #[.int .u8 x, .int .u8 0, .int .u8 0, .int .u8 0, .int .u8 0, .int .u8 0, .int .u8 0, .int .u8 0] := by
    have e0 : x % 256 = x := by omega
    have e1 : x / 256 % 256 = 0 := by omega
    have e2 : x / 65536 % 256 = 0 := by omega
    have e3 : x / 16777216 % 256 = 0 := by omega
    have e4 : x / 4294967296 % 256 = 0 := by omega
    have e5 : x / 1099511627776 % 256 = 0 := by omega
    have e6 : x / 281474976710656 % 256 = 0 := by omega
    have e7 : x / 72057594037927936 = 0 := by omega
    simp only [low8, e0, e1, e2, e3, e4, e5, e6, e7]
  have hlow := lowest_any x w ⟨h1, by omega⟩
  rw [hl] at hlow
  clear hl
  have heq := fun u => eq8_same u x
  go_enter Try.func29, Try.ntmps29
  go_wp2_with (go_at_call 30; refine hlow.mono ?_; rintro e w1 ⟨rfl, hb1⟩)
  go_ret2
  exact ⟨rfl, hb1.alloc hb1.size _⟩

set_option maxHeartbeats 400000 in
theorem only_high (x : Int) (w : World) (hx : U x) (h2 : 256 ≤ x) :
    Calls Try.prog 29 #[.int .u64 x] w fun e w' => e = .returned (.tuple #[.int .u8 0, .bool false]) ∧ Below w.heap.size w w' := by
  have hx2 := hx.2
  have hne : ¬ (x / 256 % 256 = 0 ∧ x / 65536 % 256 = 0 ∧ x / 16777216 % 256 = 0 ∧ x / 4294967296 % 256 = 0 ∧ x / 1099511627776 % 256 = 0 ∧ x / 281474976710656 % 256 = 0 ∧ x / 72057594037927936 = 0) := by omega
  have hlow := lowest_any x w hx
  have heq := fun u => eq8_other u (x % 256) _ _ _ _ _ _ _ hne
  clear hne
  simp only [low8] at hlow
  generalize x % 256 = b0 at *
  generalize x / 256 % 256 = b1 at *
  generalize x / 65536 % 256 = b2 at *
  generalize x / 16777216 % 256 = b3 at *
  generalize x / 4294967296 % 256 = b4 at *
  generalize x / 1099511627776 % 256 = b5 at *
  generalize x / 281474976710656 % 256 = b6 at *
  generalize x / 72057594037927936 = b7 at *
  go_enter Try.func29, Try.ntmps29
  go_wp2_with (go_at_call 30; refine hlow.mono ?_; rintro e w1 ⟨rfl, hb1⟩)
  go_ret2
  exact ⟨rfl, hb1.alloc hb1.size _⟩
end Go.Proofs.Ytnnebmgiifnckab
