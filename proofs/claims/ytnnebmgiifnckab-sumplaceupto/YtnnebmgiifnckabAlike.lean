/- annexlaw2.alike by its contract: true. -/
import Derived.Test.YtnnebmgiifnckabRef
import Derived.Test.YtnnebmgiifnckabMend
import Derived.Test.YtnnebmgiifnckabRMend
namespace Go.Proofs.Ytnnebmgiifnckab
open Go.RowKit
set_option maxRecDepth 100000

set_option maxHeartbeats 400000 in
theorem alike_any (h z : Int) (ao : Option Addr) (n c : Nat) (bs : List Int) (w : World) (hn : n ≤ 1048576) (hL : Lies w ao n c bs) (hby : ∀ x ∈ bs, By x) :
    Calls Try.prog 20 #[.int .u64 h, .slice ao n c, .int .u64 z] w fun e w' => e = .returned (.bool true) ∧ Below w.heap.size w w' := by
  go_enter Try.func20, Try.ntmps20
  go_wp2_with fail
  refine (sum_any ao n c bs _ (by omega) hL hby).mono ?_
  rintro e w2 ⟨rfl, hw2⟩
  subst w2
  go_wp2_with fail
  refine (rsum_any ao n c bs _ (by omega) hL hby).mono ?_
  rintro e w2 ⟨rfl, hw2⟩
  subst w2
  go_wp2_with fail
  refine (more_any h ao n c bs _ (by omega) hL hby).mono ?_
  rintro e w2 ⟨rfl, hw2⟩
  subst w2
  go_wp2_with fail
  refine (rmore_any h ao n c bs _ (by omega) hL hby).mono ?_
  rintro e w2 ⟨rfl, hw2⟩
  subst w2
  go_wp2_with fail
  refine (back_any h ao n c bs _ (by omega) hL hby).mono ?_
  rintro e w2 ⟨rfl, hw2⟩
  subst w2
  go_wp2_with fail
  refine (rback_any h ao n c bs _ (by omega) hL hby).mono ?_
  rintro e w2 ⟨rfl, hw2⟩
  subst w2
  go_wp2_with fail
  refine (mend_any z ao n c bs _ hn hL hby).mono ?_
  rintro e w3 ⟨⟨i, y, r, rfl, hM⟩, hb3⟩
  have hL3 := hL.below hb3 (Nat.le_refl _)
  have HM : Hid (Mended bs z i y r) := hM
  clear hL hM
  go_wp2_with fail
  refine (rmend_any z ao n c bs _ hn hL3 hby).mono ?_
  rintro e w4 ⟨⟨i', y', r', rfl, hM'⟩, hb4⟩
  obtain ⟨rfl, rfl, rfl⟩ := Mended.one HM.out hM'
  have hbb := hb3.trans (hb4.mono hb3.size)
  clear hL3 hb3 hb4 hM' HM
  generalize fwd 14695981039346656037 bs = z1
  generalize fwd h bs = z2
  generalize bwd h bs = z3
  go_wp2_with fail
  go_ret
  exact ⟨rfl, hbb⟩
end Go.Proofs.Ytnnebmgiifnckab
