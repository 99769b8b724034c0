/- annexlaw3.NamesUps by its walk. -/
import Derived.Test.YtknneihkkagnfaaShort
namespace Go.Proofs.Ytknneihkkagnfaa
open Go.RowKit
set_option maxRecDepth 100000

theorem judge_sub {L M : List (List UInt8)} (h : judge L = 0) (hl : M.length ≤ L.length) (hm : ∀ x, x ∈ M → x ∈ L) : judge M = 0 := by
  obtain ⟨h1, h2⟩ := judge_zero.1 h
  exact judge_zero.2 ⟨by omega, fun x hx => h2 x (hm x hx)⟩
theorem judge_take {L : List (List UInt8)} (h : judge L = 0) (k : Nat) : judge (L.take k) = 0 :=
  judge_sub h (by rw [List.length_take]; omega) (fun _ hx => List.mem_of_mem_take hx)
/-- Parent of the path of names. -/
theorem parent_path {M : List (List UInt8)} (x : List UInt8) (h : judge (M ++ [x]) = 0) : parentE (pathT (M ++ [x])) = 0 ∧ parentT (pathT (M ++ [x])) = pathT M ∧ parentN (pathT (M ++ [x])) = x := by
  have hE : parentE (pathT (M ++ [x])) = 0 := by
    unfold parentE
    rw [if_pos (split_path h).1, (split_path h).2, if_neg (by simp)]
  refine ⟨hE, ?_, ?_⟩
  · unfold parentT
    rw [if_pos hE, (split_path h).2, List.dropLast_concat]
  · unfold parentN
    rw [if_pos hE, (split_path h).2, List.getLastD_concat]
theorem parent_root : parentE [47] = 34 := by decide
theorem add_back {M : List (List UInt8)} (x : List UInt8) (h : judge (M ++ [x]) = 0) : addE (pathT M) x = 0 ∧ addT (pathT M) x = pathT (M ++ [x]) := by
  have hM : judge M = 0 := judge_sub h (by simp) (fun y hy => List.mem_append_left _ hy)
  have hx : okName x = true := (judge_zero.1 h).2 x (by simp)
  have hE : addE (pathT M) x = 0 := by
    unfold addE
    rw [if_pos (split_path hM).1, (split_path hM).2, if_pos hx]
    exact h
  exact ⟨hE, by rw [addT_path x hM, if_pos hE]⟩
/-- What Add answered, Parent takes apart. -/
theorem add_up {p x : List UInt8} (h : addE p x = 0) : parentE (addT p x) = 0 ∧ parentT (addT p x) = p ∧ parentN (addT p x) = x ∧ (addT p x).length ≤ 384 := by
  have hT : addT p x = pathT (splitL p ++ [x]) := by unfold addT; rw [if_pos h]
  unfold addE at h
  by_cases hp : splitE p = 0
  · rw [if_pos hp] at h
    by_cases hx : okName x = true
    · rw [if_pos hx] at h
      obtain ⟨h1, h2, h3⟩ := parent_path x h
      rw [hT]
      exact ⟨h1, by rw [h2, (path_split hp).2], h3, pathT_len h⟩
    · rw [if_neg hx] at h; omega
  · rw [if_neg hp] at h; exact absurd h hp
theorem path_root {L : List (List UInt8)} (h : judge L = 0) : pathT L = [47] ↔ L = [] := by
  constructor
  · intro e
    have := (split_path h).2
    rw [e] at this
    rw [← this]; decide
  · rintro rfl; rfl

/-- Has top been met among the first k + 1 paths on the way up? -/
def metB (L : List (List UInt8)) (t : List UInt8) (k : Nat) : Bool := (List.range (k + 1)).any fun j => decide (pathT (L.take (L.length - j)) = t)
theorem metB_zero (L : List (List UInt8)) (t : List UInt8) : metB L t 0 = decide (pathT L = t) := by
  simp [metB]
theorem metB_step (L : List (List UInt8)) (t : List UInt8) (k : Nat) : metB L t (k + 1) = (metB L t k || decide (pathT (L.take (L.length - (k + 1))) = t)) := by
  unfold metB
  rw [List.range_succ, List.any_append]
  simp
theorem metB_end {p t : List UInt8} (hp : splitE p = 0) : metB (splitL p) t (splitL p).length = underB p t := by
  obtain ⟨hj, hpp⟩ := path_split hp
  unfold metB underB
  rw [hp]
  rw [Bool.eq_iff_iff]
  simp only [List.any_eq_true, List.mem_range, decide_eq_true_eq, Bool.and_eq_true, decide_true, true_and]
  constructor
  · rintro ⟨j, hj1, rfl⟩
    have := split_path (judge_take hj ((splitL p).length - j))
    refine ⟨this.1, ?_⟩
    rw [this.2, List.length_take, show min ((splitL p).length - j) (splitL p).length = (splitL p).length - j by omega]
  · rintro ⟨h1, h2⟩
    have hl : (splitL t).length ≤ (splitL p).length := by
      have := congrArg List.length h2
      rw [List.length_take] at this
      omega
    refine ⟨(splitL p).length - (splitL t).length, by omega, ?_⟩
    rw [show (splitL p).length - ((splitL p).length - (splitL t).length) = (splitL t).length by omega, h2]
    exact (path_split h1).2

set_option maxHeartbeats 2000000 in
theorem ups_any (p x t : ByteArray) (w : World) (hp : p.size ≤ 140737488351232) (_hx : x.size ≤ 140737488351232) (ht : t.size ≤ 140737488351232) :
    Calls Try.prog 8 #[.string p, .string x, .string t] w fun e w' => e = .returned (.bool true) ∧ Below w.heap.size w w' := by
  go_enter Try.func8, Try.ntmps8
  go_wp2_with fail
  refine (first_any w).mono ?_
  rintro e w1 ⟨rfl, hb1⟩
  go_wp2_with fail
  refine (add_any _ _ _ (by omega)).mono ?_
  rintro e w2 ⟨rfl, hb2⟩
  have hb3 := hb1.trans (hb2.mono hb1.size)
  clear hb1 hb2
  have hA : Hid (addE (bs p) (bs x) = 0 → parentE (addT (bs p) (bs x)) = 0 ∧ parentT (addT (bs p) (bs x)) = bs p ∧ parentN (addT (bs p) (bs x)) = bs x ∧ (addT (bs p) (bs x)).length ≤ 384) := ⟨add_up⟩
  generalize addT (bs p) (bs x) = T at hA
  generalize addE (bs p) (bs x) = E at hA
  by_cases hE : E = 0
  · subst hE
    obtain ⟨h1, h2, h3, h4⟩ := hA.out rfl
    go_wp2_with (first | (go_at_call 12; refine (num_any _ _).mono ?_; rintro e w' ⟨rfl, rfl⟩) | fail)
    refine (parent_any _ _ (by rw [size_bs, bs_tx]; omega)).mono ?_
    rintro e w4 ⟨rfl, hb4⟩
    rw [bs_tx, h1, h2, h3, tx_bs, tx_bs]
    have hb5 := hb3.trans (hb4.mono hb3.size)
    clear hA h1 h2 h3 hb3 hb4
    go_wp2_with (first | (go_at_call 12; refine (num_any _ _).mono ?_; rintro e w' ⟨rfl, rfl⟩) | fail)
    refine (under_any _ _ _ (by omega) (by omega)).mono ?_
    rintro e w6 ⟨rfl, hb6⟩
    have hb7 := hb5.trans (hb6.mono hb5.size)
    have hMU : Hid (splitE (bs p) = 0 → metB (splitL (bs p)) (bs t) (splitL (bs p)).length = underB (bs p) (bs t)) := ⟨metB_end⟩
    have hU0 : Hid (¬ splitE (bs p) = 0 → underB (bs p) (bs t) = false) := ⟨fun h => by unfold underB; rw [decide_eq_false h]; rfl⟩
    have hPS : Hid (splitE (bs p) = 0 → judge (splitL (bs p)) = 0 ∧ pathT (splitL (bs p)) = bs p) := ⟨path_split⟩
    generalize underB (bs p) (bs t) = U at hMU hU0
    go_wp2_with fail
    refine (split_any _ _ (by omega)).mono ?_
    rintro e w8 ⟨ao, n, c, rfl, _, hb8⟩
    have hb9 := hb7.trans (hb8.mono hb7.size)
    clear hb5 hb6 hb7 hb8
    generalize splitL (bs p) = L at hMU hPS
    generalize splitE (bs p) = S at hMU hU0 hPS
    by_cases hS : S = 0
    · subst hS
      have hMU1 : Hid (metB L (bs t) L.length = U) := ⟨hMU.out rfl⟩
      obtain ⟨hj, hpp⟩ := hPS.out rfl
      have hlen := (judge_zero.1 hj).1
      have hm0 : Hid ((p.toList == t.toList) = metB L (bs t) 0) := ⟨by
        rw [metB_zero, hpp, ByteArray.toList_eq, ByteArray.toList_eq, Bool.eq_iff_iff]
        simp⟩
      have hp0 : Hid (p = tx (pathT (L.take (L.length - 0)))) := ⟨by rw [Nat.sub_zero, List.take_length, hpp, tx_bs]⟩
      clear hMU hU0 hPS hpp
      go_wp2_with (first | (go_at_call 12; refine (num_any _ _).mono ?_; rintro e w' ⟨rfl, rfl⟩))
      go_loopw [14, 15, 16] (fun m q i wr => ∃ k : Nat, k ≤ L.length ∧ m = .bool (metB L (bs t) k) ∧ q = .string (tx (pathT (L.take (L.length - k)))) ∧ i = .int .i64 k ∧ Below w.heap.size w wr) (fun _ _ i _ => L.length - (intOf i).toNat)
      case atStart => exact ⟨0, Nat.zero_le _, by rw [← hm0.out], by rw [← hp0.out], rfl, hb9⟩
      case round =>
        clear hm0 hp0 hb9
        obtain ⟨k, hk, rfl, rfl, rfl, hbl⟩ := hrel
        by_cases hlt : k < L.length
        · have hstep : Hid (metB L (bs t) (k + 1) = (metB L (bs t) k || decide (pathT (L.take (L.length - (k + 1))) = bs t))) := ⟨metB_step L (bs t) k⟩
          have hi : L.length - (k + 1) < L.length := by omega
          have hMy : L.take (L.length - k) = L.take (L.length - (k + 1)) ++ [L[L.length - (k + 1)]] := by
            rw [show L.length - k = L.length - (k + 1) + 1 by omega, List.take_succ_eq_append_getElem hi]
          have hjm := judge_take hj (L.length - k)
          rw [hMy] at hjm ⊢
          generalize L[L.length - (k + 1)] = y at hjm hMy
          have hM : Hid (pathT (L.take (L.length - (k + 1))) = pathT (L.take (L.length - (k + 1)))) := ⟨rfl⟩
          obtain ⟨g1, g2, g3⟩ := parent_path y hjm
          obtain ⟨g4, g5⟩ := add_back y hjm
          have gl := pathT_len hjm
          have gl0 : (pathT (L.take (L.length - (k + 1)))).length ≤ 384 := pathT_len (judge_take hj _)
          have gr : ¬ pathT (L.take (L.length - (k + 1)) ++ [y]) = [47] := fun e => by simpa using (path_root hjm).1 e
          clear hjm hMy
          generalize pathT (L.take (L.length - (k + 1)) ++ [y]) = P1 at g1 g2 g3 g4 g5 gl gr
          generalize hP0 : pathT (L.take (L.length - (k + 1))) = P0 at hstep g2 g4 g5 gl0
          have HP0 : Hid (pathT (L.take (L.length - (k + 1))) = P0) := ⟨hP0⟩
          clear hP0 hM
          have gr' : (P1 == [47]) = false := by simpa using gr
          have hki : (k : Int) ≤ 16 := by omega
          generalize metB L (bs t) k = m at hstep
          go_wp2_with fail
          refine (parent_any _ _ (by rw [size_bs, bs_tx]; omega)).mono ?_
          rintro e wa ⟨rfl, hba⟩
          rw [bs_tx, g1, g2, g3]
          go_wp2_with (first | (go_at_call 12; refine (num_any _ _).mono ?_; rintro e w' ⟨rfl, rfl⟩) | fail)
          refine (add_any _ _ _ (by rw [size_bs, bs_tx]; omega)).mono ?_
          rintro e wb ⟨rfl, hbb⟩
          rw [bs_tx, bs_tx, g4, g5]
          have hbc := hbl.trans ((hba.trans (hbb.mono hba.size)).mono hbl.size)
          clear g1 g2 g3 g4 g5 hba hbb hbl
          have hst : Hid ((m || P0 == t.toList) = metB L (bs t) (k + 1)) := ⟨by
            rw [hstep.out, ByteArray.toList_eq]
            congr 1
            rw [Bool.eq_iff_iff]
            simp⟩
          clear hstep
          rcases Bool.eq_false_or_eq_true m with rfl | rfl
          · rw [Bool.true_or] at hst
            go_wp2_with (first | (go_at_call 12; refine (num_any _ _).mono ?_; rintro e w' ⟨rfl, rfl⟩))
            go_roundw
            case rel => exact ⟨k + 1, by omega, by rw [← hst.out], by rw [HP0.out], by go_num, hbc⟩
            case measure => simp [intOf]; omega
          · rw [Bool.false_or] at hst
            go_wp2_with (first | (go_at_call 12; refine (num_any _ _).mono ?_; rintro e w' ⟨rfl, rfl⟩))
            go_roundw
            case rel => exact ⟨k + 1, by omega, by rw [← hst.out], by rw [HP0.out], by go_num, hbc⟩
            case measure => simp [intOf]; omega
        · obtain rfl : k = L.length := by omega
          rw [Nat.sub_self, List.take_zero, pathT_nil, hMU1.out]
          clear hMU1
          go_wp2_with fail
          refine (parent_any _ _ (by decide)).mono ?_
          rintro e wa ⟨rfl, hba⟩
          rw [show parentE (bs ⟨#[47]⟩) = 34 by decide]
          generalize parentT (bs ⟨#[47]⟩) = T1
          generalize parentN (bs ⟨#[47]⟩) = N1
          go_wp2_with (first | (go_at_call 12; refine (num_any _ _).mono ?_; rintro e w' ⟨rfl, rfl⟩))
          go_ret
          exact ⟨rfl, hbl.trans (hba.mono hbl.size)⟩
    · have hU := hU0.out hS
      subst hU
      have hS' : (S == 0) = false := by simpa using hS
      clear hMU hU0 hPS
      go_wp2_with (first | (go_at_call 12; refine (num_any _ _).mono ?_; rintro e w' ⟨rfl, rfl⟩))
      go_ret
      exact ⟨rfl, hb9⟩
  · have hE' : (E == 0) = false := by simpa using hE
    have hb5 := hb3
    clear hA hb3
    go_wp2_with (first | (go_at_call 12; refine (num_any _ _).mono ?_; rintro e w' ⟨rfl, rfl⟩) | fail)
    refine (under_any _ _ _ (by omega) (by omega)).mono ?_
    rintro e w6 ⟨rfl, hb6⟩
    have hb7 := hb5.trans (hb6.mono hb5.size)
    have hMU : Hid (splitE (bs p) = 0 → metB (splitL (bs p)) (bs t) (splitL (bs p)).length = underB (bs p) (bs t)) := ⟨metB_end⟩
    have hU0 : Hid (¬ splitE (bs p) = 0 → underB (bs p) (bs t) = false) := ⟨fun h => by unfold underB; rw [decide_eq_false h]; rfl⟩
    have hPS : Hid (splitE (bs p) = 0 → judge (splitL (bs p)) = 0 ∧ pathT (splitL (bs p)) = bs p) := ⟨path_split⟩
    generalize underB (bs p) (bs t) = U at hMU hU0
    go_wp2_with fail
    refine (split_any _ _ (by omega)).mono ?_
    rintro e w8 ⟨ao, n, c, rfl, _, hb8⟩
    have hb9 := hb7.trans (hb8.mono hb7.size)
    clear hb5 hb6 hb7 hb8
    generalize splitL (bs p) = L at hMU hPS
    generalize splitE (bs p) = S at hMU hU0 hPS
    by_cases hS : S = 0
    · subst hS
      have hMU1 : Hid (metB L (bs t) L.length = U) := ⟨hMU.out rfl⟩
      obtain ⟨hj, hpp⟩ := hPS.out rfl
      have hlen := (judge_zero.1 hj).1
      have hm0 : Hid ((p.toList == t.toList) = metB L (bs t) 0) := ⟨by
        rw [metB_zero, hpp, ByteArray.toList_eq, ByteArray.toList_eq, Bool.eq_iff_iff]
        simp⟩
      have hp0 : Hid (p = tx (pathT (L.take (L.length - 0)))) := ⟨by rw [Nat.sub_zero, List.take_length, hpp, tx_bs]⟩
      clear hMU hU0 hPS hpp
      go_wp2_with (first | (go_at_call 12; refine (num_any _ _).mono ?_; rintro e w' ⟨rfl, rfl⟩))
      go_loopw [14, 15, 16] (fun m q i wr => ∃ k : Nat, k ≤ L.length ∧ m = .bool (metB L (bs t) k) ∧ q = .string (tx (pathT (L.take (L.length - k)))) ∧ i = .int .i64 k ∧ Below w.heap.size w wr) (fun _ _ i _ => L.length - (intOf i).toNat)
      case atStart => exact ⟨0, Nat.zero_le _, by rw [← hm0.out], by rw [← hp0.out], rfl, hb9⟩
      case round =>
        clear hm0 hp0 hb9
        obtain ⟨k, hk, rfl, rfl, rfl, hbl⟩ := hrel
        by_cases hlt : k < L.length
        · have hstep : Hid (metB L (bs t) (k + 1) = (metB L (bs t) k || decide (pathT (L.take (L.length - (k + 1))) = bs t))) := ⟨metB_step L (bs t) k⟩
          have hi : L.length - (k + 1) < L.length := by omega
          have hMy : L.take (L.length - k) = L.take (L.length - (k + 1)) ++ [L[L.length - (k + 1)]] := by
            rw [show L.length - k = L.length - (k + 1) + 1 by omega, List.take_succ_eq_append_getElem hi]
          have hjm := judge_take hj (L.length - k)
          rw [hMy] at hjm ⊢
          generalize L[L.length - (k + 1)] = y at hjm hMy
          have hM : Hid (pathT (L.take (L.length - (k + 1))) = pathT (L.take (L.length - (k + 1)))) := ⟨rfl⟩
          obtain ⟨g1, g2, g3⟩ := parent_path y hjm
          obtain ⟨g4, g5⟩ := add_back y hjm
          have gl := pathT_len hjm
          have gl0 : (pathT (L.take (L.length - (k + 1)))).length ≤ 384 := pathT_len (judge_take hj _)
          have gr : ¬ pathT (L.take (L.length - (k + 1)) ++ [y]) = [47] := fun e => by simpa using (path_root hjm).1 e
          clear hjm hMy
          generalize pathT (L.take (L.length - (k + 1)) ++ [y]) = P1 at g1 g2 g3 g4 g5 gl gr
          generalize hP0 : pathT (L.take (L.length - (k + 1))) = P0 at hstep g2 g4 g5 gl0
          have HP0 : Hid (pathT (L.take (L.length - (k + 1))) = P0) := ⟨hP0⟩
          clear hP0 hM
          have gr' : (P1 == [47]) = false := by simpa using gr
          have hki : (k : Int) ≤ 16 := by omega
          generalize metB L (bs t) k = m at hstep
          go_wp2_with fail
          refine (parent_any _ _ (by rw [size_bs, bs_tx]; omega)).mono ?_
          rintro e wa ⟨rfl, hba⟩
          rw [bs_tx, g1, g2, g3]
          go_wp2_with (first | (go_at_call 12; refine (num_any _ _).mono ?_; rintro e w' ⟨rfl, rfl⟩) | fail)
          refine (add_any _ _ _ (by rw [size_bs, bs_tx]; omega)).mono ?_
          rintro e wb ⟨rfl, hbb⟩
          rw [bs_tx, bs_tx, g4, g5]
          have hbc := hbl.trans ((hba.trans (hbb.mono hba.size)).mono hbl.size)
          clear g1 g2 g3 g4 g5 hba hbb hbl
          have hst : Hid ((m || P0 == t.toList) = metB L (bs t) (k + 1)) := ⟨by
            rw [hstep.out, ByteArray.toList_eq]
            congr 1
            rw [Bool.eq_iff_iff]
            simp⟩
          clear hstep
          rcases Bool.eq_false_or_eq_true m with rfl | rfl
          · rw [Bool.true_or] at hst
            go_wp2_with (first | (go_at_call 12; refine (num_any _ _).mono ?_; rintro e w' ⟨rfl, rfl⟩))
            go_roundw
            case rel => exact ⟨k + 1, by omega, by rw [← hst.out], by rw [HP0.out], by go_num, hbc⟩
            case measure => simp [intOf]; omega
          · rw [Bool.false_or] at hst
            go_wp2_with (first | (go_at_call 12; refine (num_any _ _).mono ?_; rintro e w' ⟨rfl, rfl⟩))
            go_roundw
            case rel => exact ⟨k + 1, by omega, by rw [← hst.out], by rw [HP0.out], by go_num, hbc⟩
            case measure => simp [intOf]; omega
        · obtain rfl : k = L.length := by omega
          rw [Nat.sub_self, List.take_zero, pathT_nil, hMU1.out]
          clear hMU1
          go_wp2_with fail
          refine (parent_any _ _ (by decide)).mono ?_
          rintro e wa ⟨rfl, hba⟩
          rw [show parentE (bs ⟨#[47]⟩) = 34 by decide]
          generalize parentT (bs ⟨#[47]⟩) = T1
          generalize parentN (bs ⟨#[47]⟩) = N1
          go_wp2_with (first | (go_at_call 12; refine (num_any _ _).mono ?_; rintro e w' ⟨rfl, rfl⟩))
          go_ret
          exact ⟨rfl, hbl.trans (hba.mono hbl.size)⟩
    · have hU := hU0.out hS
      subst hU
      have hS' : (S == 0) = false := by simpa using hS
      clear hMU hU0 hPS
      go_wp2_with (first | (go_at_call 12; refine (num_any _ _).mono ?_; rintro e w' ⟨rfl, rfl⟩))
      go_ret
      exact ⟨rfl, hb9⟩
end Go.Proofs.Ytknneihkkagnfaa
