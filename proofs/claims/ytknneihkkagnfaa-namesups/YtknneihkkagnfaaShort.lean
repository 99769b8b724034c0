/- annexlaw3.NamesShort by its walk. -/
import Derived.Test.YtknneihkkagnfaaFirst
import Derived.Test.YtknneihkkagnfaaUnder
namespace Go.Proofs.Ytknneihkkagnfaa
open Go.RowKit
set_option maxRecDepth 100000

theorem okay_any (k : Int) (w : World) : Calls Try.prog 19 #[.int .i64 k] w fun e w' => e = .returned (.bool (k == 0)) ∧ w' = w := by
  go_enter Try.func19, Try.ntmps19
  go_wp2_with (first | (go_at_call 12; refine (num_any _ _).mono ?_; rintro e w' ⟨rfl, rfl⟩))
  go_ret
  exact ⟨rfl, rfl⟩

theorem judge_more {L : List (List UInt8)} {x : List UInt8} (h : judge L = 0) (hx : okName x = true) : judge (L ++ [x]) = if L.length < 16 then 0 else 33 := by
  obtain ⟨h1, h2⟩ := judge_zero.1 h
  by_cases hl : L.length < 16
  · rw [if_pos hl, judge_zero]
    refine ⟨by simp; omega, fun y hy => ?_⟩
    rcases List.mem_append.1 hy with hy | hy
    · exact h2 y hy
    · rw [List.mem_singleton.1 hy]; exact hx
  · rw [if_neg hl]
    unfold judge
    rw [if_pos (by simp; omega)]
theorem add_path {L : List (List UInt8)} (x : List UInt8) (h : judge L = 0) : addE (pathT L) x = if okName x = true then (if L.length < 16 then 0 else 33) else 31 := by
  unfold addE
  rw [if_pos (split_path h).1, (split_path h).2]
  by_cases hx : okName x = true
  · rw [if_pos hx, if_pos hx, judge_more h hx]
  · rw [if_neg hx, if_neg hx]
theorem addT_path {L : List (List UInt8)} (x : List UInt8) (h : judge L = 0) : addT (pathT L) x = if addE (pathT L) x = 0 then pathT (L ++ [x]) else [] := by
  unfold addT
  rw [(split_path h).2]

set_option maxHeartbeats 2000000 in
theorem short_any (ao : Option Addr) (n c : Nat) (xs : List ByteArray) (w : World) (hn : n ≤ 8796093021952) (hL : Lies w ao n c xs) (_hs : ∀ x, x ∈ xs → x.size ≤ 140737488351232) :
    Calls Try.prog 7 #[.slice ao n c] w fun e w' => e = .returned (.bool true) ∧ Below w.heap.size w w' := by
  have hni : (n : Int) ≤ 8796093021952 := by omega
  go_enter Try.func7, Try.ntmps7
  go_wp2_with fail
  refine (first_any w).mono ?_
  rintro e w1 ⟨rfl, hb1⟩
  go_wp2
  go_loopw [4, 5, 6] (fun p m i wr => ∃ (k : Nat) (L : List (List UInt8)), k ≤ n ∧ p = .string (tx (pathT L)) ∧ m = .int .i64 L.length ∧ i = .int .i64 k ∧ judge L = 0 ∧ Below w.heap.size w wr) (fun _ _ i _ => n - (intOf i).toNat)
  case atStart => exact ⟨0, [], Nat.zero_le _, rfl, rfl, rfl, by decide, hb1⟩
  case round =>
    obtain ⟨k, L, hk, rfl, rfl, rfl, hj, hbl⟩ := hrel
    have hlen := (judge_zero.1 hj).1
    have hpl := pathT_len hj
    have hspl : Hid (splitE (pathT L) = 0 ∧ splitL (pathT L) = L) := ⟨split_path hj⟩
    by_cases hlt : k < n
    · have hLr := hL.below hbl (Nat.le_refl _)
      have hk' : k < xs.length := by rw [hL.hlen]; exact hlt
      obtain ⟨b, o, rfl, hbw, hcell⟩ := hLr.at (by omega)
      have hc := hcell k hk'
      clear hL hLr hcell
      generalize xs[k] = x at hc
      have hE : Hid (addE (pathT L) (bs x) = if okName (bs x) = true then (if L.length < 16 then 0 else 33) else 31) := ⟨add_path (bs x) hj⟩
      have hT : Hid (addT (pathT L) (bs x) = if addE (pathT L) (bs x) = 0 then pathT (L ++ [bs x]) else []) := ⟨addT_path (bs x) hj⟩
      have hck : Hid (checkN (bs x) = if okName (bs x) = true then 0 else 31) := ⟨rfl⟩
      have hJ : Hid (okName (bs x) = true → L.length < 16 → judge (L ++ [bs x]) = 0) := ⟨fun h1 h2 => by rw [judge_more hj h1, if_pos h2]⟩
      go_wp2_with fail
      refine (check_any _ _).mono ?_
      rintro e w2 ⟨rfl, hb2⟩
      have hc2 := (hb2.cell (p := ⟨b, o + k, none⟩) hbw).trans hc
      clear hc
      have hb3 := hbl.trans (hb2.mono hbl.size)
      generalize checkN (bs x) = C at hck
      go_wp2_with fail
      refine (add_any _ _ _ (by rw [size_bs, bs_tx]; omega)).mono ?_
      rintro e w3 ⟨rfl, hb4⟩
      rw [bs_tx]
      have hb5 := hb3.trans (hb4.mono hb3.size)
      clear hb1 hbl hb2 hb3 hb4 hc2
      generalize addT (pathT L) (bs x) = T at hT
      generalize addE (pathT L) (bs x) = E at hT hE
      by_cases ho : okName (bs x) = true
      · have hC := hck.out
        rw [if_pos ho] at hC
        subst hC
        have hE1 := hE.out
        rw [if_pos ho] at hE1
        by_cases h16 : L.length < 16
        · rw [if_pos h16] at hE1
          subst hE1
          have hT1 := hT.out
          rw [if_pos rfl] at hT1
          subst hT1
          have hjj := hJ.out ho h16
          have hpl2 := pathT_len hjj
          have h16i : (L.length : Int) < 16 := by omega
          have hsz : ¬ (384 : Int) < (tx (pathT (L ++ [bs x]))).size := by rw [size_bs, bs_tx]; omega
          clear hE hT hck hJ
          generalize hM : L ++ [bs x] = M at hjj hpl2 hsz
          have hMl : M.length = L.length + 1 := by rw [← hM]; simp
          go_wp2_with (first | (go_at_call 19; refine (okay_any _ _).mono ?_; rintro e w' ⟨rfl, rfl⟩))
          go_roundw
          case rel => exact ⟨k + 1, M, by omega, rfl, by rw [hMl]; go_num, by go_num, hjj, hb5⟩
          case measure => simp [intOf]; omega
        · rw [if_neg h16] at hE1
          subst hE1
          have hT1 := hT.out
          rw [if_neg (by decide)] at hT1
          subst hT1
          have h16i : ¬ (L.length : Int) < 16 := by omega
          clear hE hT hck hJ
          go_wp2_with (first | (go_at_call 19; refine (okay_any _ _).mono ?_; rintro e w' ⟨rfl, rfl⟩) | (go_at_call 12; refine (num_any _ _).mono ?_; rintro e w' ⟨rfl, rfl⟩))
          go_roundw
          case rel => exact ⟨k + 1, L, by omega, rfl, rfl, by go_num, hj, hb5⟩
          case measure => simp [intOf]; omega
      · have hC := hck.out
        rw [if_neg ho] at hC
        subst hC
        have hE1 := hE.out
        rw [if_neg ho] at hE1
        subst hE1
        have hT1 := hT.out
        rw [if_neg (by decide)] at hT1
        subst hT1
        clear hE hT hck hJ
        go_wp2_with (first | (go_at_call 19; refine (okay_any _ _).mono ?_; rintro e w' ⟨rfl, rfl⟩) | (go_at_call 12; refine (num_any _ _).mono ?_; rintro e w' ⟨rfl, rfl⟩))
        go_roundw
        case rel => exact ⟨k + 1, L, by omega, rfl, rfl, by go_num, hj, hb5⟩
        case measure => simp [intOf]; omega
    · clear hL
      go_wp2_with fail
      refine (split_any _ _ (by rw [size_bs, bs_tx]; omega)).mono ?_
      rintro e w2 ⟨ao2, n2, c2, rfl, hown, hb2⟩
      rw [bs_tx] at hown ⊢
      obtain ⟨hE, hS⟩ := hspl.out
      rw [hE]
      rw [hS] at hown
      have hn2 : n2 = L.length := by have := hown.1; simp at this; omega
      subst hn2
      go_wp2_with (first | (go_at_call 19; refine (okay_any _ _).mono ?_; rintro e w' ⟨rfl, rfl⟩))
      go_ret
      exact ⟨rfl, hbl.trans (hb2.mono hbl.size)⟩
end Go.Proofs.Ytknneihkkagnfaa
