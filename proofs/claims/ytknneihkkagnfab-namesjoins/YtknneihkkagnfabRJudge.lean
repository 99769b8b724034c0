/- annexref3.judge: are these names, and not too many? -/
import Derived.Test.YtknneihkkagnfabRCheck
import Derived.Test.YtknneihkkagnfabUnder
namespace Go.Proofs.Ytknneihkkagnfab
open Go.RowKit
set_option maxRecDepth 100000

set_option maxHeartbeats 1000000 in
theorem rjudge_any (ao : Option Addr) (n c : Nat) (xs : List ByteArray) (w : World) (hn : n ≤ 200000000000000) (hA : Lies w ao n c xs) :
    Calls Try.prog 26 #[.slice ao n c] w fun e w' => e = .returned (.int .i64 (judge (xs.map bs))) ∧ w' = w := by
  have hni : (n : Int) ≤ 200000000000000 := by omega
  obtain rfl := hA.hlen
  go_enter Try.func26, Try.ntmps26
  by_cases h16 : 16 < xs.length
  · have h16' : (16 : Int) < xs.length := by omega
    have hj : judge (xs.map bs) = 33 := by unfold judge; rw [if_pos (by simpa using h16)]
    rw [hj]
    go_wp2
    go_ret
    exact ⟨rfl, rfl⟩
  · have h16' : ¬ (16 : Int) < xs.length := by omega
    have hall := allN_judge (xs := xs) (by omega)
    rw [← hall]
    have hlx : xs.length ≤ 16 := by omega
    clear hall
    go_wp2
    go_loopw [3] (fun i wr => ∃ k : Nat, k ≤ xs.length ∧ i = .int .i64 k ∧ wr = w ∧ (xs.take k).all (fun s => okName (bs s)) = true) (fun i _ => xs.length - (intOf i).toNat)
    case atStart => exact ⟨0, Nat.zero_le _, rfl, rfl, by simp⟩
    case round =>
      obtain ⟨k, hk, rfl, rfl, htk⟩ := hrel
      have HT : Hid ((xs.take k).all (fun s => okName (bs s)) = true) := ⟨htk⟩
      clear htk
      by_cases hlt : k < xs.length
      · obtain ⟨b, o, rfl, hbw, hcell⟩ := hA.at (by omega)
        have ga := hcell k hlt
        clear hcell
        have hok : checkN (bs xs[k]) = 0 ∨ checkN (bs xs[k]) = 31 := by unfold checkN; split <;> simp
        go_wp2_with fail
        refine (rcheck_any _ _).mono ?_
        rintro e w2 ⟨rfl, rfl⟩
        rcases hok with hok | hok
        · rw [hok]
          go_wp2
          go_roundw
          case rel => exact ⟨k + 1, by omega, by go_num, by simp, all_step HT.out hlt hok⟩
          case measure => simp [intOf]; omega
        · rw [hok]
          go_wp2
          go_ret
          exact ⟨by rw [all_bad hlt hok]; rfl, rfl⟩
      · go_wp2
        go_ret
        refine ⟨?_, rfl⟩
        have := HT.out
        rw [List.take_of_length_le (by omega)] at this
        simp [allN, this]
end Go.Proofs.Ytknneihkkagnfab
