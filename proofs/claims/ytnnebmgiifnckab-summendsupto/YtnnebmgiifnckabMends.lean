/- annexlaw2.SumMends by its walk. -/
import Derived.Test.YtnnebmgiifnckabMores
import Derived.Test.YtnnebmgiifnckabMend
import Derived.Test.YtnnebmgiifnckabRMend
namespace Go.Proofs.Ytnnebmgiifnckab
open Go.RowKit
set_option maxRecDepth 100000

set_option maxHeartbeats 400000 in
theorem mends_any (ao : Option Addr) (n c : Nat) (bs : List Int) (z : Int) (w : World) (hn : n ≤ 1048576) (hL : Lies w ao n c bs) (hby : ∀ x ∈ bs, By x) (_hz : U z) :
    Calls Try.prog 7 #[.slice ao n c, .int .u64 z] w fun e w' => e = .returned (.bool true) ∧ Below w.heap.size w w' := by
  go_enter Try.func7, Try.ntmps7
  go_wp2_with fail
  refine (known_any w).mono ?_
  rintro e w1 ⟨rfl, hb1⟩
  have hL1 := hL.below hb1 (Nat.le_refl _)
  clear hL
  go_wp2_with fail
  refine (roomy_any ao n c bs _ (by omega) hL1).mono ?_
  rintro e w2 ⟨g, cap, rfl, hown, hb2⟩
  have hW := Lies.own hown
  have hL2 := hL1.below hb2 (Nat.le_refl _)
  have hcap : n ≤ cap := Nat.le_trans (Nat.le_add_right _ _) hW.hle
  have hcapi : (n : Int) ≤ cap := by omega
  have hF := hW.front hL2.hlen (by omega)
  have hb := hb1.trans (hb2.mono hb1.size)
  clear hL1 hb1 hb2 hown
  go_wp2_with fail
  refine (mend_any z _ n cap bs _ hn hF hby).mono ?_
  rintro e w3 ⟨⟨i, y, r, rfl, hM⟩, hb3⟩
  have hL3 := hL2.below hb3 (Nat.le_refl _)
  have hW3 := hW.below hb3 (Nat.le_refl _)
  have hbb := hb.trans (hb3.mono hb.size)
  have HM : Hid (Mended bs z i y r) := hM
  clear hL2 hW hF hb hb3 hM
  go_wp2_with fail
  refine (rmend_any z ao n c bs _ hn hL3 hby).mono ?_
  rintro e w4 ⟨⟨i', y', r', rfl, hM'⟩, hb4⟩
  obtain ⟨rfl, rfl, rfl⟩ := Mended.one HM.out hM'
  have hL4 := hL3.below hb4 (Nat.le_refl _)
  have hW4 := hW3.below hb4 (Nat.le_refl _)
  have hb5 := hbb.trans (hb4.mono hbb.size)
  clear hL3 hW3 hbb hb4 hM' HM
  go_wp2_with fail
  refine (stays_any _ ao (n + 9) n cap c (bs ++ marks 9) bs _ (by omega) (by omega) hW4 hL4).mono ?_
  rintro e w5 ⟨rfl, hb6⟩
  rw [decide_eq_true rfl]
  go_wp2_with fail
  go_ret
  exact ⟨rfl, hb5.trans (hb6.mono hb5.size)⟩
end Go.Proofs.Ytnnebmgiifnckab
