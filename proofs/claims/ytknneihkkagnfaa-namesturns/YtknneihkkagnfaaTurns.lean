/- annexlaw3.NamesTurns by its walk. -/
import Derived.Test.YtknneihkkagnfaaFirst
import Derived.Test.YtknneihkkagnfaaUnder
namespace Go.Proofs.Ytknneihkkagnfaa
open Go.RowKit
set_option maxRecDepth 100000

theorem tx_bs_map (xs : List ByteArray) : (xs.map bs).map tx = xs := by
  rw [List.map_map]
  conv => rhs; rw [← List.map_id xs]
  exact List.map_congr_left fun x _ => tx_bs x
/-- May these be the names of a path, as far as k of them are looked at? -/
def mayB (xs : List ByteArray) (k : Nat) : Bool := decide (xs.length ≤ 16) && (xs.take k).all (fun s => okName (bs s))
theorem mayB_zero (xs : List ByteArray) : mayB xs 0 = decide (xs.length ≤ 16) := by simp [mayB]
theorem mayB_step {xs : List ByteArray} {k : Nat} (hk : k < xs.length) (h : mayB xs k = true) : mayB xs (k + 1) = decide (checkN (bs xs[k]) = 0) := by
  simp only [mayB, Bool.and_eq_true] at h ⊢
  rw [List.take_succ_eq_append_getElem hk, List.all_append, h.1, h.2]
  simp only [Bool.true_and, List.all_cons, List.all_nil, Bool.and_true]
  rw [show (okName (bs xs[k]) = decide (okName (bs xs[k]) = true)) by simp]
  exact decide_eq_decide.2 checkN_ok.symm
theorem mayB_end {xs : List ByteArray} {k : Nat} (h : ¬ k < xs.length ∨ mayB xs k = false) : mayB xs k = decide (judge (xs.map bs) = 0) := by
  have e : decide (judge (xs.map bs) = 0) = (decide (xs.length ≤ 16) && xs.all (fun s => okName (bs s))) := by
    rw [Bool.eq_iff_iff]
    simp [judge_zero]
  rw [e]
  rcases h with h | h
  · unfold mayB
    rw [List.take_of_length_le (by omega)]
  · rw [h]
    unfold mayB at h
    rw [Bool.and_eq_false_iff] at h
    rcases h with h | h
    · rw [h]; rfl
    · have : xs.all (fun s => okName (bs s)) = false := by
        rw [List.all_eq_false] at h ⊢
        obtain ⟨x, hx, hx'⟩ := h
        exact ⟨x, List.mem_of_mem_take hx, hx'⟩
      rw [this]; simp

set_option maxHeartbeats 2000000 in
theorem turns_any (ao : Option Addr) (n c : Nat) (xs : List ByteArray) (p : ByteArray) (w : World) (hn : n ≤ 8796093021952) (hL : Lies w ao n c xs) (_hs : ∀ x, x ∈ xs → x.size ≤ 140737488351232) (hp : p.size ≤ 140737488351232) :
    Calls Try.prog 3 #[.slice ao n c, .string p] w fun e w' => e = .returned (.bool true) ∧ Below w.heap.size w w' := by
  have hni : (n : Int) ≤ 8796093021952 := by omega
  go_enter Try.func3, Try.ntmps3
  go_wp2_with fail
  refine (first_any w).mono ?_
  rintro e w1 ⟨rfl, hb1⟩
  have hL1 := hL.below hb1 (Nat.le_refl _)
  go_wp2_with fail
  refine (join_any _ _ _ _ _ (by omega) hL1).mono ?_
  rintro e w2 ⟨rfl, hb2⟩
  have hJT : Hid (judge (xs.map bs) = 0 → joinT (xs.map bs) = pathT (xs.map bs)) := ⟨fun h => by unfold joinT; rw [if_pos h]⟩
  have hJ0 : Hid (∀ k, (¬ k < xs.length ∨ mayB xs k = false) → mayB xs k = decide (judge (xs.map bs) = 0)) := ⟨fun k h => mayB_end h⟩
  have hSP : Hid (judge (xs.map bs) = 0 → splitE (pathT (xs.map bs)) = 0 ∧ splitL (pathT (xs.map bs)) = xs.map bs ∧ (pathT (xs.map bs)).length ≤ 384) := ⟨fun h => ⟨(split_path h).1, (split_path h).2, pathT_len h⟩⟩
  generalize judge (xs.map bs) = J at hJT hJ0 hSP
  generalize joinT (xs.map bs) = T at hJT
  generalize pathT (xs.map bs) = P at hJT hSP
  have hb12 := hb1.trans (hb2.mono hb1.size)
  clear hb1 hb2 hL1
  have hm0 : Hid (∀ m, m = decide ((n : Int) ≤ 16) → m = mayB xs 0) := ⟨fun m h => by rw [mayB_zero, h, hL.hlen]; exact decide_eq_decide.2 (by omega)⟩
  go_wp2
  go_loopw [8, 9] (fun m i wr => ∃ k : Nat, k ≤ n ∧ m = .bool (mayB xs k) ∧ i = .int .i64 k ∧ Below w.heap.size w wr) (fun _ i _ => n - (intOf i).toNat)
  case atStart => exact ⟨0, Nat.zero_le _, by rw [← hm0.out _ rfl], rfl, hb12⟩
  case round =>
    obtain ⟨k, hk, rfl, rfl, hbl⟩ := hrel
    have HM : Hid (∀ hk : k < xs.length, mayB xs k = true → mayB xs (k + 1) = decide (checkN (bs xs[k]) = 0)) := ⟨fun hk h => mayB_step hk h⟩
    have HE : Hid ((¬ k < xs.length ∨ mayB xs k = false) → mayB xs k = decide (J = 0)) := ⟨hJ0.out k⟩
    have hlr := hL.hlen
    generalize hm : mayB xs k = m at HM HE
    have hLr := hL.below hbl (Nat.le_refl _)
    by_cases hgo : k < n ∧ m = true
    · obtain ⟨hlt, rfl⟩ := hgo
      have hk' : k < xs.length := by omega
      have hstep := HM.out hk' rfl
      obtain ⟨b, o, rfl, hbw, hcell⟩ := hLr.at (by omega)
      have hc := hcell k hk'
      clear hcell HM HE hJ0 hJT hSP hLr hL hm
      generalize xs[k] = x at hc hstep
      have HS : Hid (mayB xs (k + 1) = decide (checkN (bs x) = 0)) := ⟨hstep⟩
      clear hstep
      go_wp2_with fail
      refine (check_any _ _).mono ?_
      rintro e w3 ⟨rfl, hb3⟩
      generalize checkN (bs x) = C at HS
      have hb4 := hbl.trans (hb3.mono hbl.size)
      go_wp2_with (first | (go_at_call 12; refine (num_any _ _).mono ?_; rintro e w' ⟨rfl, rfl⟩))
      go_roundw
      case rel => exact ⟨k + 1, by omega, by rw [HS.out]; first | rfl | simp, by go_num, hb4⟩
      case measure => simp [intOf]; omega
    · have hd : m = decide (J = 0) := HE.out (by
        by_cases h1 : k < n
        · exact Or.inr (by cases m with | false => rfl | true => exact absurd ⟨h1, rfl⟩ hgo)
        · exact Or.inl (by omega))
      have hsplit : (¬ k < n) ∨ (k < n ∧ m = false) := by
        by_cases h1 : k < n
        · exact Or.inr ⟨h1, by cases m with | false => rfl | true => exact absurd ⟨h1, rfl⟩ hgo⟩
        · exact Or.inl h1
      clear HM HE hJ0 hgo hm
      have hLo := splitL_len (bs p)
      by_cases hJ : J = 0
      · subst hJ
        rw [decide_eq_true rfl] at hd
        subst hd
        obtain ⟨hsE, hsL, hsl⟩ := hSP.out rfl
        have hT := hJT.out rfl
        subst hT
        have hk1 : ¬ k < n := by rcases hsplit with h | ⟨_, h⟩; exact h; cases h
        have hsz : ¬ (384 : Int) < (tx T).size := by rw [size_bs, bs_tx]; omega
        clear hSP hJT hsplit
        go_wp2_with (first | (go_at_call 12; refine (num_any _ _).mono ?_; rintro e w' ⟨rfl, rfl⟩) | fail)
        refine (split_any _ _ (by rw [size_bs, bs_tx]; omega)).mono ?_
        rintro e w3 ⟨ao3, n3, c3, rfl, hown3, hb3⟩
        rw [bs_tx] at hown3 ⊢
        rw [hsE]
        rw [hsL, tx_bs_map] at hown3
        have hn3 : n3 = n := by have := hown3.1; simp at this; omega
        subst hn3
        have hL3 := hLr.below hb3 (Nat.le_refl _)
        go_wp2_with fail
        have hO := Lies.owned (xs := xs) hown3
        have hsame := same_any ao ao3 n3 n3 c c3 xs xs w3 (by omega) hL3 hO
        clear hL3 hO hown3
        refine hsame.mono ?_
        rintro e w4 ⟨rfl, q, rfl⟩
        rw [decide_eq_true rfl]
        have hb4 : Below w.heap.size w (w3.drewN q) := (hbl.trans (hb3.mono hbl.size)).drewN q
        clear hb3 hbl hLr
        go_wp2_with (first | (go_at_call 12; refine (num_any _ _).mono ?_; rintro e w' ⟨rfl, rfl⟩) | fail)
        refine (split_any _ _ (by omega)).mono ?_
        rintro e w5 ⟨ao5, n5, c5, rfl, hown5, hb5⟩
        have hb6 := hb4.trans (hb5.mono hb4.size)
        by_cases hE : splitE (bs p) = 0
        · have hps := path_split hE
          rw [hE]
          have hn5 : n5 ≤ 16 := by have := hown5.1; simp at this; omega
          have hL5 := Lies.owned hown5
          have hjT : joinT (((splitL (bs p)).map tx).map bs) = bs p := by rw [map_tx_bs]; unfold joinT; rw [if_pos hps.1, hps.2]
          have hjj : judge (((splitL (bs p)).map tx).map bs) = 0 := by rw [map_tx_bs]; exact hps.1
          generalize (splitL (bs p)).map tx = Y at hL5 hjT hjj
          go_wp2_with (first | (go_at_call 12; refine (num_any _ _).mono ?_; rintro e w' ⟨rfl, rfl⟩) | fail)
          refine (join_any _ _ _ _ _ (by omega) hL5).mono ?_
          rintro e w7 ⟨rfl, hb7⟩
          rw [hjT, hjj, tx_bs]
          go_wp2_with (first | (go_at_call 12; refine (num_any _ _).mono ?_; rintro e w' ⟨rfl, rfl⟩))
          go_ret
          exact ⟨rfl, hb6.trans (hb7.mono hb6.size)⟩
        · have hz := splitL_err hE
          rw [hz] at hown5
          have hn5 : n5 = 0 := by have := hown5.1; simp at this; omega
          subst hn5
          generalize splitE (bs p) = S at hE
          have hE' : (S == 0) = false := by simpa using hE
          go_wp2_with (first | (go_at_call 12; refine (num_any _ _).mono ?_; rintro e w' ⟨rfl, rfl⟩))
          go_ret
          exact ⟨rfl, hb6⟩
      · rw [decide_eq_false hJ] at hd
        subst hd
        have hJ' : (J == 0) = false := by simpa using hJ
        have hb4 := hbl
        clear hSP hJT hLr hbl
        have hway : (k < n) ∨ (¬ k < n) := by omega
        rcases hway with hway | hway
        all_goals
          go_wp2_with (first | (go_at_call 12; refine (num_any _ _).mono ?_; rintro e w' ⟨rfl, rfl⟩) | fail)
          refine (split_any _ _ (by omega)).mono ?_
          rintro e w5 ⟨ao5, n5, c5, rfl, hown5, hb5⟩
          have hb6 := hb4.trans (hb5.mono hb4.size)
          by_cases hE : splitE (bs p) = 0
          · have hps := path_split hE
            rw [hE]
            have hn5 : n5 ≤ 16 := by have := hown5.1; simp at this; omega
            have hL5 := Lies.owned hown5
            have hjT : joinT (((splitL (bs p)).map tx).map bs) = bs p := by rw [map_tx_bs]; unfold joinT; rw [if_pos hps.1, hps.2]
            have hjj : judge (((splitL (bs p)).map tx).map bs) = 0 := by rw [map_tx_bs]; exact hps.1
            generalize (splitL (bs p)).map tx = Y at hL5 hjT hjj
            go_wp2_with (first | (go_at_call 12; refine (num_any _ _).mono ?_; rintro e w' ⟨rfl, rfl⟩) | fail)
            refine (join_any _ _ _ _ _ (by omega) hL5).mono ?_
            rintro e w7 ⟨rfl, hb7⟩
            rw [hjT, hjj, tx_bs]
            go_wp2_with (first | (go_at_call 12; refine (num_any _ _).mono ?_; rintro e w' ⟨rfl, rfl⟩))
            go_ret
            exact ⟨rfl, hb6.trans (hb7.mono hb6.size)⟩
          · have hz := splitL_err hE
            rw [hz] at hown5
            have hn5 : n5 = 0 := by have := hown5.1; simp at this; omega
            subst hn5
            generalize splitE (bs p) = S at hE
            have hE' : (S == 0) = false := by simpa using hE
            go_wp2_with (first | (go_at_call 12; refine (num_any _ _).mono ?_; rintro e w' ⟨rfl, rfl⟩))
            go_ret
            exact ⟨rfl, hb6⟩
end Go.Proofs.Ytknneihkkagnfaa
