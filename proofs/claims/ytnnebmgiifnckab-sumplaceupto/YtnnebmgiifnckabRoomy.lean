/- annexref.SameBytes, annexlaw2.roomy and stays by their contracts. -/
import Derived.Test.YtnnebmgiifnckabBytes
namespace Go.Proofs.Ytnnebmgiifnckab
open Go.RowKit
set_option maxRecDepth 100000

theorem ne_of_at {xs ys : List Int} {k : Nat} {h1 : k < xs.length} {h2 : k < ys.length} (h : (xs[k] != ys[k]) = true) : ¬ xs = ys := by
  rintro rfl; simp at h
theorem take_both {xs ys : List Int} {k : Nat} (ht : xs.take k = ys.take k) (h1 : k < xs.length) (h2 : k < ys.length) (h : (xs[k] != ys[k]) = false) : xs.take (k + 1) = ys.take (k + 1) := by
  rw [List.take_succ_eq_append_getElem h1, List.take_succ_eq_append_getElem h2, ht]
  simp at h; rw [h]

set_option maxHeartbeats 400000 in
theorem same_pos (b1 o1 c1 b2 o2 c2 n : Nat) (xs ys : List Int) (w : World) (hn : n ≤ 200000000000000) (hla : xs.length = n) (hlb : ys.length = n) (_hc1 : n ≤ c1) (_hc2 : n ≤ c2)
    (ha : ∀ t, t < n → w.cell? ⟨b1, o1 + t, none⟩ = some (.int .u8 (xs.getD t 0))) (hb : ∀ t, t < n → w.cell? ⟨b2, o2 + t, none⟩ = some (.int .u8 (ys.getD t 0))) :
    Calls Try.prog 22 #[.slice (some ⟨b1, o1, none⟩) n c1, .slice (some ⟨b2, o2, none⟩) n c2] w fun e w' => e = .returned (.bool (decide (xs = ys))) ∧ ∃ m, w' = w.drewN m := by
  have hni : (n : Int) ≤ 200000000000000 := by omega
  go_enter Try.func22, Try.ntmps22
  go_wp2
  go_loopw [5] (fun i wr => ∃ k m : Nat, k ≤ n ∧ i = .int .i64 k ∧ wr = w.drewN m ∧ xs.take k = ys.take k) (fun i _ => n - (intOf i).toNat)
  case atStart => exact ⟨0, 0, Nat.zero_le _, rfl, rfl, by simp⟩
  case round =>
    obtain ⟨k, m, hk, rfl, rfl, htk⟩ := hrel
    have HT : Hid (xs.take k = ys.take k) := htk
    clear htk
    by_cases hlt : k < n
    · have ga := ha k hlt
      have gb := hb k hlt
      clear ha hb
      go_wp2
      go_quiet (fail)
      go_wp2
      · go_ret
        exact ⟨by rw [decide_eq_false (ne_of_at ‹_›)]; rfl, m + nq, World.drewN_drewN _ _ _⟩
      · go_roundw
        case rel => exact ⟨k + 1, m + nq, by omega, by go_num, by first | rfl | simp, take_both HT.out _ _ ‹_›⟩
        case measure => simp [intOf]; omega
    · clear ha hb
      go_wp2
      go_ret
      refine ⟨?_, m, rfl⟩
      have : xs = ys := by
        have := HT.out
        rwa [List.take_of_length_le (by omega), List.take_of_length_le (by omega)] at this
      simp [this]

set_option maxHeartbeats 400000 in
theorem same_len (ao bo : Option Addr) (n m c1 c2 : Nat) (w : World) (hne : ¬ n = m) :
    Calls Try.prog 22 #[.slice ao n c1, .slice bo m c2] w fun e w' => e = .returned (.bool false) ∧ w' = w := by
  have h : ((n : Int) != (m : Int)) = true := by simp; omega
  go_enter Try.func22, Try.ntmps22
  go_wp2
  go_ret
  exact ⟨rfl, rfl⟩

set_option maxHeartbeats 400000 in
theorem same_zero (ao bo : Option Addr) (c1 c2 : Nat) (w : World) :
    Calls Try.prog 22 #[.slice ao 0 c1, .slice bo 0 c2] w fun e w' => e = .returned (.bool true) ∧ w' = w := by
  go_enter Try.func22, Try.ntmps22
  go_wp2
  refine wp_loop_rounds 1 ?_
  rw [rounds_succ]
  go_wp2
  go_ret
  exact ⟨rfl, rfl⟩

/-- SameBytes, of any two slices of bytes. -/
theorem same_any (ao bo : Option Addr) (n m c1 c2 : Nat) (xs ys : List Int) (w : World) (hn : n ≤ 200000000000000) (hA : Lies w ao n c1 xs) (hB : Lies w bo m c2 ys) :
    Calls Try.prog 22 #[.slice ao n c1, .slice bo m c2] w fun e w' => e = .returned (.bool (decide (xs = ys))) ∧ ∃ m, w' = w.drewN m := by
  by_cases hnm : n = m
  · subst hnm
    by_cases h0 : 0 < n
    · obtain ⟨b1, o1, rfl, ha⟩ := hA.at h0
      obtain ⟨b2, o2, rfl, hb⟩ := hB.at h0
      exact same_pos b1 o1 c1 b2 o2 c2 n xs ys w hn hA.hlen hB.hlen hA.hle hB.hle ha hb
    · obtain rfl : n = 0 := by omega
      refine (same_zero ao bo c1 c2 w).mono ?_
      rintro e w' ⟨rfl, rfl⟩
      have e1 : xs = [] := List.eq_nil_of_length_eq_zero hA.hlen
      have e2 : ys = [] := List.eq_nil_of_length_eq_zero hB.hlen
      subst e1; subst e2
      exact ⟨by simp, 0, rfl⟩
  · refine (same_len ao bo n m c1 c2 w hnm).mono ?_
    rintro e w' ⟨rfl, rfl⟩
    refine ⟨?_, 0, rfl⟩
    rw [decide_eq_false]
    rintro rfl
    exact hnm (hA.hlen.symm.trans hB.hlen)

theorem below_drewN {B : Nat} {w w' : World} (h : Below B w w') (m : Nat) : Below B w (w'.drewN m) := by
  induction m with
  | zero => exact h
  | succ m ih => exact ih.drew

/-- The marks of the spare room. -/
def marks (k : Nat) : List Int := (List.range k).map (fun (i : Nat) => (200 : Int) + (i : Int))
theorem marks_succ (k : Nat) : marks (k + 1) = marks k ++ [200 + (k : Int)] := by
  simp [marks, List.range_succ]
theorem marks_length (k : Nat) : (marks k).length = k := by simp [marks]

set_option maxHeartbeats 400000 in
theorem roomy_any (ao : Option Addr) (n c : Nat) (bs : List Int) (w : World) (hn : n ≤ 140737488351232) (hL : Lies w ao n c bs) :
    Calls Try.prog 16 #[.slice ao n c] w fun e w' => ∃ g cap, e = .returned (.slice (some ⟨g, 0, none⟩) (n + 9) cap) ∧ w'.ownsRow w.heap.size 5 1 (.slice (some ⟨g, 0, none⟩) (n + 9) cap) (n + 9) ((bs ++ marks 9).map (Value.int .u8)) ∧ Below w.heap.size w w' := by
  obtain ⟨i0, hi, hz0, hz1, hz2⟩ := info_parts Try.info5
  have hni : (n : Int) ≤ 140737488351232 := by omega
  go_enter Try.func16, Try.ntmps16
  go_wp2_with fail
  refine (bytes_any ao n c bs _ (by omega) hL).mono ?_
  rintro e w1 ⟨g, c1, rfl, hown0, hb0⟩
  go_wp2_with fail
  go_loopw [3, 4] (fun v i wr => ∃ k : Nat, k ≤ 9 ∧ i = .int .i64 k ∧ wr.ownsRow w.heap.size 5 1 v (n + k) ((bs ++ marks k).map (Value.int .u8)) ∧ Below w.heap.size w wr) (fun _ i _ => 9 - (intOf i).toNat)
  case atStart => exact ⟨0, Nat.zero_le _, rfl, by simpa [marks] using hown0, hb0⟩
  case round =>
    obtain ⟨k, hk, rfl, hown, hb⟩ := hrel
    clear hown0 hb0
    by_cases hlt : k < 9
    · have hki : (k : Int) < 9 := by omega
      have HS : Hid (marks (k + 1) = marks k ++ [200 + (k : Int)]) := marks_succ k
      have hcv : (200 + (k : Int)) % 256 = 200 + (k : Int) := by omega
      go_wp2_with (at_builtin; refine wpList_append_own _ rfl (.tmp 11) (.tmp 15) 26 rfl w.heap.size 5 i0 (.int .u8 0) 1 1 Try.underlying26 hi hz0 hz1 hz2 rfl (by decide) _ _ _ rfl (hown.alloc _) ⟨wr.heap.size, 0, none⟩ 1 1 [.int .u8 (200 + (k : Int))] rfl rfl (cell_one_new _ _ _) (by intro u hu; simp at hu; subst hu; rfl) (by unfold maxLen; omega) (by omega) (by have := hb.size; simp; omega) ?_; intro v' w1 hown1 hgrow1 hnil1)
      go_roundw
      case rel =>
        refine ⟨k + 1, by omega, by go_num, ?_, ?_⟩
        · rw [HS.out, ← List.append_assoc, List.map_append (l₁ := bs ++ marks k)]; exact hown1
        · exact (hb.alloc hb.size _).grown hgrow1 (by simp; have := hb.size; omega) (fun k hk => (hown.lt k hk).1)
      case measure => simp [intOf]; omega
    · have hki : (9 : Int) ≤ k := by omega
      go_wp2
      go_ret
      obtain rfl : k = 9 := by omega
      rcases hown.2 with ⟨hv, hn0⟩ | ⟨g, cap, cur, hv, r⟩
      · omega
      · subst hv
        exact ⟨g, cap, rfl, hown, hb⟩

set_option maxHeartbeats 400000 in
theorem stays_any (ao bo : Option Addr) (n m c d : Nat) (xs bs : List Int) (w : World) (hn : n ≤ 140737488355328) (hm : m ≤ 140737488351232) (hA : Lies w ao n c xs) (hB : Lies w bo m d bs) :
    Calls Try.prog 17 #[.slice ao n c, .slice bo m d] w fun e w' => e = .returned (.bool (decide (xs = bs ++ marks 9))) ∧ Below w.heap.size w w' := by
  go_enter Try.func17, Try.ntmps17
  go_wp2_with fail
  refine (roomy_any bo m d bs _ hm hB).mono ?_
  rintro e w1 ⟨g, cap, rfl, hown, hb⟩
  have hA1 := hA.below hb (Nat.le_refl _)
  have hB1 := Lies.own hown
  go_wp2_with fail
  refine (same_any ao _ n (m + 9) c cap xs (bs ++ marks 9) _ (by omega) hA1 hB1).mono ?_
  rintro e w2 ⟨rfl, k, hw2⟩
  subst w2
  go_wp2_with fail
  go_ret
  exact ⟨rfl, below_drewN hb k⟩
end Go.Proofs.Ytnnebmgiifnckab
