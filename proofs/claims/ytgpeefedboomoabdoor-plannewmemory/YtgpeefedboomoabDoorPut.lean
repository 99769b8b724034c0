/- roomBehind and appendNumber by their contracts. -/
import Derived.Test.YtgpeefedboomoabDoorBase
namespace Go.Proofs.YtgpeefedboomoabDoor
open Go.RowKit
set_option maxRecDepth 100000

set_option maxHeartbeats 400000 in
theorem room_any (ao : Option Addr) (len cap n : Nat) (bs : List Int) (w : World) (hbd : len + n ≤ 140737488355328) (hL : Lies w ao len cap bs) :
    Calls Tryd.prog 55 #[.slice ao len cap, .int .i64 n] w fun e w' => e = .returned (.slice (some ⟨w.heap.size, 0, none⟩) len (len + n)) ∧
      w'.ownsRow w.heap.size 5 1 (.slice (some ⟨w.heap.size, 0, none⟩) len (len + n)) len (bs.map (Value.int .u8)) ∧ Below w.heap.size w w' := by
  obtain ⟨i0, hi, hz0, hz1, hz2⟩ := info_parts Tryd.info5
  go_enter Tryd.func55, Tryd.ntmps55
  go_wp2_with (first
    | (at_make; refine wpList_make_own _ rfl _ _ 26 rfl w.heap.size 5 i0 (.int .u8 0) 1 Tryd.underlying26 hi hz0 hz1 _ _ _ (len + n) rfl rfl (by omega) (by rw [hz2]; omega) (by unfold maxLen; omega) (Nat.le_refl _) ?_; intro w0 hown0 hgrow0)
    | (at_builtin; refine wpList_append_fits_any _ rfl (.tmp 9) (.tmp 10) 26 rfl w.heap.size 5 i0 1 Tryd.underlying26 hi hz1 w.heap.size 0 (len + n) _ rfl hown0 _ len _ (bs.map (Value.int .u8)) rfl (by simp [hL.hlen]) hL.hnone (fun ad had t u hu => hgrow0.cell (hL.hcells ad had t u hu) (by simp)) (ints_oneCell _ _) (by omega) ?_; intro w1 hown1 hgrow1))
  go_ret
  simp only [Nat.zero_add, List.nil_append] at hown1 ⊢
  exact ⟨rfl, hown1, ((Below.refl _ _).grown hgrow0 (Nat.le_refl _) (fun k h => by cases h)).grown hgrow1 hgrow0.size (fun k hk => by cases hk; exact Nat.le_refl _)⟩

set_option maxHeartbeats 400000 in
theorem num_any (g n cap sz base : Nat) (X : Int) (bs : List Int) (w : World) (_hX0 : 0 ≤ X) (_hX1 : X ≤ 18446744073709551615) (hsz : sz ≤ 8)
    (hown : w.ownsRow base 5 1 (.slice (some ⟨g, 0, none⟩) n cap) n (bs.map (Value.int .u8))) (hfit : n + sz ≤ cap) :
    Calls Tryd.prog 54 #[.slice (some ⟨g, 0, none⟩) n cap, .int .u64 X, .int .i64 sz] w fun e w' => e = .returned (.slice (some ⟨g, 0, none⟩) (n + sz) cap) ∧
      w'.ownsRow base 5 1 (.slice (some ⟨g, 0, none⟩) (n + sz) cap) (n + sz) ((bs ++ be X sz).map (Value.int .u8)) ∧ w.grownBy w' (some g) := by
  obtain ⟨i0, hi, hz0, hz1, hz2⟩ := info_parts Tryd.info5
  go_enter Tryd.func54, Tryd.ntmps54
  go_wp2
  go_loopw [0, 7] (fun v i wr => ∃ (m : Nat) (pre : List Int), m ≤ sz ∧ i = .int .i64 ((m : Int) - 1) ∧ v = .slice (some ⟨g, 0, none⟩) (n + (sz - m)) cap ∧
      wr.ownsRow base 5 1 (.slice (some ⟨g, 0, none⟩) (n + (sz - m)) cap) (n + (sz - m)) ((bs ++ pre).map (Value.int .u8)) ∧ pre ++ be X m = be X sz ∧ w.grownBy wr (some g))
    (fun _ i _ => (intOf i + 1).toNat)
  case atStart => exact ⟨sz, [], Nat.le_refl _, by go_num, by simp, by simpa using hown, rfl, World.grownBy.refl _ _⟩
  case round =>
    obtain ⟨m, pre, hm, rfl, rfl, hownr, hpre, hgr⟩ := hrel
    by_cases hm0 : 0 < m
    · obtain ⟨m, rfl⟩ : ∃ k, m = k + 1 := ⟨m - 1, by omega⟩
      have HP : Hid (pre ++ be X (m + 1) = be X sz) := hpre
      clear hpre
      have h1 : (0 : Int) ≤ m := by omega
      have h2 : (m : Int) < 8 := by omega
      go_wp2_with (at_builtin; refine wpList_append_fits _ rfl (.tmp 14) (.tmp 20) 26 rfl base 5 i0 1 Tryd.underlying26 hi hz1 g (n + (sz - (m + 1))) cap _ rfl (hownr.alloc _) ⟨wr.heap.size, 0, none⟩ 1 1 [.int .u8 (X / 2 ^ (8 * m) % 256)] rfl rfl (cell_one_new _ _ _) (by intro u hu; simp at hu; subst hu; rfl) (by omega) ?_; intro w1 hown1 hgrow1)
      have e0 : n + (sz - (m + 1)) + 1 = n + (sz - m) := by omega
      go_roundw
      case rel =>
        refine ⟨m, pre ++ [X / 2 ^ (8 * m) % 256], by omega, by go_num, by rw [← e0], ?_, ?_, grown_trans (grown_trans hgr (World.grownBy_alloc _ _ _)) hgrow1⟩
        · rw [← e0]; simpa using hown1
        · rw [List.append_assoc]; exact HP.out
      case measure => simp [intOf]
    · have h1 : (m : Int) ≤ 0 := by omega
      have HP : Hid (pre ++ be X m = be X sz) := hpre
      clear hpre
      go_wp2
      go_ret
      obtain rfl : m = 0 := by omega
      have hpre := HP.out
      have e0 : n + (sz - 0) = n + sz := by omega
      simp only [be, List.append_nil] at hpre
      rw [← hpre]
      exact ⟨by rw [← e0]; rfl, by rw [e0] at hownr; exact hownr, hgr⟩

/-- What a Put answers: a new row of bytes, all of them from 'base' on; nothing old has turned. -/
def Made (w : World) (e : Ending) (w' : World) (n : Nat) (bs : List Int) : Prop :=
  ∃ g cap, e = .returned (.slice (some ⟨g, 0, none⟩) n cap) ∧ w'.ownsRow w.heap.size 5 1 (.slice (some ⟨g, 0, none⟩) n cap) n (bs.map (Value.int .u8)) ∧ Below w.heap.size w w'

set_option maxHeartbeats 400000 in
theorem putSum_any (ao : Option Addr) (len cap : Nat) (X : Int) (bs : List Int) (w : World) (hX0 : 0 ≤ X) (hX1 : X ≤ 18446744073709551615) (hbd : len + 8 ≤ 140737488355328) (hL : Lies w ao len cap bs) :
    Calls Tryd.prog 45 #[.slice ao len cap, .int .u64 X] w fun e w' => Made w e w' (len + 8) (bs ++ be X 8) := by
  go_enter Tryd.func45, Tryd.ntmps45
  go_wp2_with (first
    | (go_at_call 55; refine (room_any ao len cap 8 bs _ hbd hL).mono ?_; rintro e w1 ⟨rfl, hown1, hb1⟩)
    | (go_at_call 54; refine (num_any w.heap.size len (len + 8) 8 w.heap.size X bs _ hX0 hX1 (by omega) hown1 (by omega)).mono ?_; rintro e w2 ⟨rfl, hown2, hg2⟩))
  go_ret
  exact ⟨w.heap.size, len + 8, rfl, hown2, hb1.grown hg2 hb1.size (fun k hk => by cases hk; exact Nat.le_refl _)⟩
end Go.Proofs.YtgpeefedboomoabDoor
