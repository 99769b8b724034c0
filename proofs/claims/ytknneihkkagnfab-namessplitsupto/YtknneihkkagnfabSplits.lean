/- annexlaw3.NamesSplits by its walk. -/
import Derived.Test.YtknneihkkagnfabRSplit
namespace Go.Proofs.Ytknneihkkagnfab
open Go.RowKit
set_option maxRecDepth 100000

set_option maxHeartbeats 1000000 in
theorem splits_any (ao : Option Addr) (n c : Nat) (xs : List ByteArray) (w : World) (hn : n ≤ 1048576) (hL : Lies w ao n c xs) (hs : ∀ x, x ∈ xs → x.size ≤ 1048576) :
    Calls Try.prog 3 #[.slice ao n c] w fun e w' => e = .returned (.bool true) ∧ Below w.heap.size w w' := by
  have hni : (n : Int) ≤ 1048576 := by omega
  go_enter Try.func3, Try.ntmps3
  go_wp2_with fail
  refine (first_any w).mono ?_
  rintro e w1 ⟨rfl, hb1⟩
  go_wp2
  go_loopw [4] (fun i wr => ∃ k : Nat, k ≤ n ∧ i = .int .i64 k ∧ Below w.heap.size w wr) (fun i _ => n - (intOf i).toNat)
  case atStart => exact ⟨0, Nat.zero_le _, rfl, hb1⟩
  case round =>
    obtain ⟨k, hk, rfl, hbl⟩ := hrel
    by_cases hlt : k < n
    · have hLr := hL.below hbl (Nat.le_refl _)
      have hk' : k < xs.length := by rw [hL.hlen]; exact hlt
      obtain ⟨b, o, rfl, hbw, hcell⟩ := hLr.at (by omega)
      have hc := hcell k hk'
      have hxs := hs _ (List.getElem_mem hk')
      clear hL hLr hcell hs
      generalize xs[k] = x at hc hxs
      have hlen := splitL_len (bs x)
      go_wp2_with fail
      refine (split_any _ _ (by omega)).mono ?_
      rintro e w2 ⟨ao2, n2, c2, rfl, hown2, hb2⟩
      have hc2 := (hb2.cell (p := ⟨b, o + k, none⟩) hbw).trans hc
      clear hc
      go_wp2_with fail
      refine (rsplit_any _ _ hxs).mono ?_
      rintro e w3 ⟨ao3, n3, c3, rfl, hown3, hb3⟩
      have hA := Lies.owned (own_below hown2 hb3 (Nat.le_refl _))
      have hB := Lies.owned hown3
      have hn2 : n2 ≤ 16 := by have := hA.hlen; simp at this; omega
      generalize (splitL (bs x)).map tx = Y at hA hB
      generalize splitE (bs x) = S
      clear hown2 hown3
      go_wp2_with fail
      refine (same_any _ _ _ _ _ _ _ _ _ (by omega) hA hB).mono ?_
      rintro e w4 ⟨rfl, q, rfl⟩
      rw [decide_eq_true rfl]
      have hb23 := hb2.trans (hb3.mono hb2.size)
      have hb5 : Below w.heap.size w (w3.drewN q) := (hbl.trans (hb23.mono hbl.size)).drewN q
      clear hA hB hb2 hb3 hb23 hc2
      go_wp2_with (first | (go_at_call 10; refine (num_any _ _).mono ?_; rintro e w' ⟨rfl, rfl⟩))
      go_roundw
      case rel => exact ⟨k + 1, by omega, by go_num, hb5⟩
      case measure => simp [intOf]; omega
    · clear hL
      go_wp2
      go_ret
      exact ⟨rfl, hbl⟩
end Go.Proofs.Ytknneihkkagnfab
