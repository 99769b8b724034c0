/- annexlaw2.joined and SumJoins by their walks. -/
import Derived.Test.YtnnebmgiifnckaaKnown
import Derived.Test.YtnnebmgiifnckaaBytes
namespace Go.Proofs.Ytnnebmgiifnckaa
open Go.RowKit
set_option maxRecDepth 100000

set_option maxHeartbeats 400000 in
theorem joined_pos (ao : Option Addr) (la ca b o cb n : Nat) (xs bs : List Int) (w : World) (hla : la ≤ 1048576) (hn : n ≤ 1048576) (hA : Lies w ao la ca xs) (hl : bs.length = n)
    (hc : ∀ t, t < n → w.cell? ⟨b, o + t, none⟩ = some (.int .u8 (bs.getD t 0))) :
    Calls Try.prog 14 #[.slice ao la ca, .slice (some ⟨b, o, none⟩) n cb] w fun e w' => ∃ v, e = .returned v ∧ w'.ownsRow w.heap.size 5 1 v (la + n) ((xs ++ bs).map (Value.int .u8)) ∧ Below w.heap.size w w' := by
  obtain ⟨i0, hi, hz0, hz1, hz2⟩ := info_parts Try.info5
  have hni : (n : Int) ≤ 1048576 := by omega
  go_enter Try.func14, Try.ntmps14
  go_wp2_with fail
  refine (bytes_any ao la ca xs _ (by omega) hA).mono ?_
  rintro e w1 ⟨g, c1, rfl, hown0, hb0⟩
  go_wp2_with fail
  go_loopw [5, 6] (fun v i wr => ∃ k : Nat, k ≤ n ∧ i = .int .i64 k ∧ wr.ownsRow w.heap.size 5 1 v (la + k) ((xs ++ bs.take k).map (Value.int .u8)) ∧ Below w.heap.size w wr) (fun _ i _ => n - (intOf i).toNat)
  case atStart => exact ⟨0, Nat.zero_le _, rfl, by simpa using hown0, hb0⟩
  case round =>
    obtain ⟨k, hk, rfl, hown, hb⟩ := hrel
    clear hown0 hb0
    by_cases hlt : k < n
    · have hck := cell_later hb (hc k hlt)
      have HS : Hid (bs.take (k + 1) = bs.take k ++ [bs.getD k 0]) := take_succ_getD bs (by omega)
      clear hc
      generalize bs.getD k 0 = C at *
      go_wp2_with (at_builtin; refine wpList_append_own _ rfl (.tmp 15) (.tmp 20) 23 rfl w.heap.size 5 i0 (.int .u8 0) 1 1 Try.underlying23 hi hz0 hz1 hz2 rfl (by decide) _ _ _ rfl (hown.alloc _) ⟨wr.heap.size, 0, none⟩ 1 1 [.int .u8 C] rfl rfl (cell_one_new _ _ _) (by intro u hu; simp at hu; subst hu; rfl) (by unfold maxLen; omega) (by omega) (by have := hb.size; simp; omega) ?_; intro v' w1 hown1 hgrow1 hnil1)
      go_roundw
      case rel =>
        refine ⟨k + 1, by omega, by go_num, ?_, ?_⟩
        · rw [HS.out, ← List.append_assoc, List.map_append (l₁ := xs ++ bs.take k)]; exact hown1
        · exact (hb.alloc hb.size _).grown hgrow1 (by simp; have := hb.size; omega) (fun k hk => (hown.lt k hk).1)
      case measure => simp [intOf]; omega
    · clear hc
      go_wp2
      go_ret
      obtain rfl : k = n := by omega
      refine ⟨_, rfl, ?_, hb⟩
      rw [List.take_of_length_le (by omega)] at hown
      exact hown

set_option maxHeartbeats 400000 in
theorem joined_zero (ao bo : Option Addr) (la ca cb : Nat) (xs : List Int) (w : World) (hla : la ≤ 1048576) (hA : Lies w ao la ca xs) :
    Calls Try.prog 14 #[.slice ao la ca, .slice bo 0 cb] w fun e w' => ∃ v, e = .returned v ∧ w'.ownsRow w.heap.size 5 1 v la (xs.map (Value.int .u8)) ∧ Below w.heap.size w w' := by
  go_enter Try.func14, Try.ntmps14
  go_wp2_with fail
  refine (bytes_any ao la ca xs _ (by omega) hA).mono ?_
  rintro e w1 ⟨g, c1, rfl, hown0, hb0⟩
  go_wp2_with fail
  refine wp_loop_rounds 1 ?_
  rw [rounds_succ]
  go_wp2
  go_ret
  exact ⟨_, rfl, hown0, hb0⟩

theorem joined_any (ao bo : Option Addr) (la ca lb cb : Nat) (xs bs : List Int) (w : World) (hla : la ≤ 1048576) (hn : lb ≤ 1048576) (hA : Lies w ao la ca xs) (hB : Lies w bo lb cb bs) :
    Calls Try.prog 14 #[.slice ao la ca, .slice bo lb cb] w fun e w' => Fresh w e w' (la + lb) (xs ++ bs) := by
  by_cases h0 : 0 < lb
  · obtain ⟨b, o, rfl, hc⟩ := hB.at h0
    refine (joined_pos ao la ca b o cb lb xs bs w hla hn hA hB.hlen hc).mono ?_
    rintro e w' ⟨v, rfl, hown, hb⟩
    obtain ⟨ao, c, rfl⟩ := own_len hown
    exact ⟨ao, c, rfl, hown, hb⟩
  · obtain rfl : lb = 0 := by omega
    obtain rfl := List.eq_nil_of_length_eq_zero hB.hlen
    refine (joined_zero ao bo la ca cb xs w hla hA).mono ?_
    rintro e w' ⟨v, rfl, hown, hb⟩
    obtain ⟨ao, c, rfl⟩ := own_len hown
    exact ⟨ao, c, rfl, by simpa using hown, hb⟩

set_option maxHeartbeats 400000 in
theorem joins_any (h : Int) (ao : Option Addr) (la ca : Nat) (xs : List Int) (bo : Option Addr) (lb cb : Nat) (bs : List Int) (w : World) (_hh : U h) (hla : la ≤ 1048576) (hA : Lies w ao la ca xs) (hya : ∀ x ∈ xs, By x) (hlb : lb ≤ 1048576) (hB : Lies w bo lb cb bs) (hyb : ∀ x ∈ bs, By x) :
    Calls Try.prog 6 #[.int .u64 h, .slice ao la ca, .slice bo lb cb] w fun e w' => e = .returned (.bool true) ∧ Below w.heap.size w w' := by
  have hyab : ∀ x ∈ xs ++ bs, By x := fun x hx => (List.mem_append.1 hx).elim (hya x) (hyb x)
  have E1 : Hid (∀ g, fwd g (xs ++ bs) = fwd (fwd g xs) bs) := fun g => fwd_append g xs bs
  have E2 : Hid (∀ g, bwd g (xs ++ bs) = bwd (bwd g bs) xs) := fun g => bwd_append g xs bs
  go_enter Try.func6, Try.ntmps6
  go_wp2_with fail
  refine (known_any w).mono ?_
  rintro e w1 ⟨rfl, hb⟩
  have hA1 := hA.below hb (Nat.le_refl _)
  have hB1 := hB.below hb (Nat.le_refl _)
  clear hA hB
  go_wp2_with fail
  refine (more_any _ ao la ca xs _ (by omega) hA1 hya).mono ?_
  rintro e w2 ⟨rfl, hw2⟩
  subst w2
  go_wp2_with fail
  refine (more_any _ bo lb cb bs _ (by omega) hB1 hyb).mono ?_
  rintro e w2 ⟨rfl, hw2⟩
  subst w2
  go_wp2_with fail
  refine (joined_any ao bo la ca lb cb xs bs _ hla hlb hA1 hB1).mono ?_
  rintro e w2 ⟨jo, jc, rfl, hj, hb2⟩
  have hJ := Lies.owned hj
  have hA2 := hA1.below hb2 (Nat.le_refl _)
  have hB2 := hB1.below hb2 (Nat.le_refl _)
  have hbb := hb.trans (hb2.mono hb.size)
  clear hA1 hB1 hb hb2 hj
  go_wp2_with fail
  refine (more_any _ jo (la + lb) jc (xs ++ bs) _ (by omega) hJ hyab).mono ?_
  rintro e w3 ⟨rfl, hw3⟩
  subst w3
  clear hJ
  rw [E1.out]
  go_wp2_with fail
  refine (back_any _ bo lb cb bs _ (by omega) hB2 hyb).mono ?_
  rintro e w3 ⟨rfl, hw3⟩
  subst w3
  go_wp2_with fail
  refine (back_any _ ao la ca xs _ (by omega) hA2 hya).mono ?_
  rintro e w3 ⟨rfl, hw3⟩
  subst w3
  go_wp2_with fail
  refine (joined_any ao bo la ca lb cb xs bs _ hla hlb hA2 hB2).mono ?_
  rintro e w3 ⟨jo3, jc3, rfl, hj, hb3⟩
  have hJ := Lies.owned hj
  have hA3 := hA2.below hb3 (Nat.le_refl _)
  have hB3 := hB2.below hb3 (Nat.le_refl _)
  have hbb3 := hbb.trans (hb3.mono hbb.size)
  clear hA2 hB2 hbb hb3 hj
  go_wp2_with fail
  refine (back_any _ jo3 (la + lb) jc3 (xs ++ bs) _ (by omega) hJ hyab).mono ?_
  rintro e w4 ⟨rfl, hw4⟩
  subst w4
  clear hJ
  rw [E2.out]
  go_wp2_with fail
  refine (joined_any ao bo la ca lb cb xs bs _ hla hlb hA3 hB3).mono ?_
  rintro e w4 ⟨jo4, jc4, rfl, hj, hb4⟩
  have hJ := Lies.owned hj
  have hA4 := hA3.below hb4 (Nat.le_refl _)
  have hB4 := hB3.below hb4 (Nat.le_refl _)
  have hbb4 := hbb3.trans (hb4.mono hbb3.size)
  clear hA3 hB3 hbb3 hb4 hj
  go_wp2_with fail
  refine (sum_any jo4 (la + lb) jc4 (xs ++ bs) _ (by omega) hJ hyab).mono ?_
  rintro e w5 ⟨rfl, hw5⟩
  subst w5
  clear hJ
  rw [E1.out]
  go_wp2_with fail
  refine (sum_any ao la ca xs _ (by omega) hA4 hya).mono ?_
  rintro e w5 ⟨rfl, hw5⟩
  subst w5
  go_wp2_with fail
  refine (more_any _ bo lb cb bs _ (by omega) hB4 hyb).mono ?_
  rintro e w5 ⟨rfl, hw5⟩
  subst w5
  generalize fwd (fwd h xs) bs = z1
  generalize fwd (fwd 14695981039346656037 xs) bs = z2
  generalize bwd (bwd h bs) xs = z3
  go_wp2_with fail
  go_ret
  exact ⟨rfl, hbb4⟩
end Go.Proofs.Ytnnebmgiifnckaa
