/- annexlaw3.NamesChecks by its walk. -/
import Derived.Test.YtknneihkkagnfaaRCheck
namespace Go.Proofs.Ytknneihkkagnfaa
open Go.RowKit
set_option maxRecDepth 100000

set_option maxHeartbeats 1000000 in
theorem checks_any (ao : Option Addr) (n c : Nat) (xs : List ByteArray) (w : World) (hn : n ≤ 8796093021952) (hL : Lies w ao n c xs) (_hs : ∀ x, x ∈ xs → x.size ≤ 140737488351232) :
    Calls Try.prog 5 #[.slice ao n c] w fun e w' => e = .returned (.bool true) ∧ Below w.heap.size w w' := by
  have hni : (n : Int) ≤ 8796093021952 := by omega
  go_enter Try.func5, Try.ntmps5
  go_wp2_with fail
  refine (first_any w).mono ?_
  rintro e w1 ⟨rfl, hb1⟩
  go_wp2
  go_loopw [4] (fun i wr => ∃ k : Nat, k ≤ n ∧ i = .int .i64 k ∧ Below w.heap.size w wr) (fun i _ => n - (intOf i).toNat)
  case atStart => exact ⟨0, Nat.zero_le _, rfl, hb1⟩
  case round =>
    obtain ⟨k, hk, rfl, hbl⟩ := hrel
    by_cases hlt : k < n
    · have hLr := hL.below hbl (Nat.le_refl _)
      have hk' : k < xs.length := by rw [hL.hlen]; exact hlt
      obtain ⟨b, o, rfl, hbw, hcell⟩ := hLr.at (by omega)
      have hc := hcell k hk'
      clear hL hLr hcell
      generalize xs[k] = x at hc
      go_wp2_with fail
      refine (check_any _ _).mono ?_
      rintro e w2 ⟨rfl, hb2⟩
      have hc2 := (hb2.cell (p := ⟨b, o + k, none⟩) hbw).trans hc
      clear hc
      go_wp2_with fail
      refine (rcheck_any _ _).mono ?_
      rintro e w3 ⟨rfl, rfl⟩
      generalize checkN (bs x) = C
      have hb3 := hbl.trans (hb2.mono hbl.size)
      go_wp2_with (first | (go_at_call 12; refine (num_any _ _).mono ?_; rintro e w' ⟨rfl, rfl⟩))
      go_roundw
      case rel => exact ⟨k + 1, by omega, by go_num, hb3⟩
      case measure => simp [intOf]; omega
    · clear hL
      go_wp2
      go_ret
      exact ⟨rfl, hbl⟩
end Go.Proofs.Ytknneihkkagnfaa
