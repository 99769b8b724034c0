/- annexlaw2.SumSums, SumMores and SumBacks by their walks. -/
import Derived.Test.YtnnebmgiifnckabKnown
import Derived.Test.YtnnebmgiifnckabRef
import Derived.Test.YtnnebmgiifnckabRoomy
namespace Go.Proofs.Ytnnebmgiifnckab
open Go.RowKit
set_option maxRecDepth 100000

theorem Lies.front {w : World} {ao : Option Addr} {n m cap : Nat} {xs ys : List Int} (h : Lies w ao (n + m) cap (xs ++ ys)) (hx : xs.length = n) (hm : 0 < m) : Lies w ao n cap xs := by
  refine ⟨hx, Nat.le_trans (Nat.le_add_right _ _) h.hle, fun he => ?_, fun ad had t u hu => h.hcells ad had t u ?_⟩
  · have := (h.hnone he).1
    omega
  · have ht : t < (xs.map (Value.int .u8)).length := (List.getElem?_eq_some_iff.1 hu).1
    rw [List.map_append, List.getElem?_append_left ht]
    exact hu

set_option maxHeartbeats 400000 in
theorem sums_any (ao : Option Addr) (n c : Nat) (bs : List Int) (w : World) (hn : n ≤ 140737488351232) (hL : Lies w ao n c bs) (hby : ∀ x ∈ bs, By x) :
    Calls Try.prog 6 #[.slice ao n c] w fun e w' => e = .returned (.bool true) ∧ Below w.heap.size w w' := by
  go_enter Try.func6, Try.ntmps6
  go_wp2_with fail
  refine (known_any w).mono ?_
  rintro e w1 ⟨rfl, hb1⟩
  have hL1 := hL.below hb1 (Nat.le_refl _)
  clear hL
  go_wp2_with fail
  refine (roomy_any ao n c bs _ hn hL1).mono ?_
  rintro e w2 ⟨g, cap, rfl, hown, hb2⟩
  have hW := Lies.own hown
  have hL2 := hL1.below hb2 (Nat.le_refl _)
  have hcap : n ≤ cap := Nat.le_trans (Nat.le_add_right _ _) hW.hle
  have hcapi : (n : Int) ≤ cap := by omega
  have hF := hW.front hL2.hlen (by omega)
  have hb := hb1.trans (hb2.mono hb1.size)
  clear hL1 hb1 hb2 hown
  go_wp2_with fail
  refine (sum_any _ n cap bs _ (by omega) hF hby).mono ?_
  rintro e w3 ⟨rfl, hw3⟩
  subst w3
  go_wp2_with fail
  refine (rsum_any ao n c bs _ (by omega) hL2 hby).mono ?_
  rintro e w3 ⟨rfl, hw3⟩
  subst w3
  go_wp2_with fail
  refine (stays_any _ ao (n + 9) n cap c (bs ++ marks 9) bs _ (by omega) hn hW hL2).mono ?_
  rintro e w3 ⟨rfl, hb3⟩
  rw [decide_eq_true rfl]
  generalize fwd 14695981039346656037 bs = z
  go_wp2_with fail
  go_ret
  exact ⟨rfl, hb.trans (hb3.mono hb.size)⟩

set_option maxHeartbeats 400000 in
theorem mores_any (h : Int) (ao : Option Addr) (n c : Nat) (bs : List Int) (w : World) (_hh : U h) (hn : n ≤ 140737488351232) (hL : Lies w ao n c bs) (hby : ∀ x ∈ bs, By x) :
    Calls Try.prog 5 #[.int .u64 h, .slice ao n c] w fun e w' => e = .returned (.bool true) ∧ Below w.heap.size w w' := by
  go_enter Try.func5, Try.ntmps5
  go_wp2_with fail
  refine (known_any w).mono ?_
  rintro e w1 ⟨rfl, hb1⟩
  have hL1 := hL.below hb1 (Nat.le_refl _)
  clear hL
  go_wp2_with fail
  refine (roomy_any ao n c bs _ hn hL1).mono ?_
  rintro e w2 ⟨g, cap, rfl, hown, hb2⟩
  have hW := Lies.own hown
  have hL2 := hL1.below hb2 (Nat.le_refl _)
  have hcap : n ≤ cap := Nat.le_trans (Nat.le_add_right _ _) hW.hle
  have hcapi : (n : Int) ≤ cap := by omega
  have hF := hW.front hL2.hlen (by omega)
  have hb := hb1.trans (hb2.mono hb1.size)
  clear hL1 hb1 hb2 hown
  go_wp2_with fail
  refine (more_any _ _ n cap bs _ (by omega) hF hby).mono ?_
  rintro e w3 ⟨rfl, hw3⟩
  subst w3
  go_wp2_with fail
  refine (rmore_any _ ao n c bs _ (by omega) hL2 hby).mono ?_
  rintro e w3 ⟨rfl, hw3⟩
  subst w3
  go_wp2_with fail
  refine (stays_any _ ao (n + 9) n cap c (bs ++ marks 9) bs _ (by omega) hn hW hL2).mono ?_
  rintro e w3 ⟨rfl, hb3⟩
  rw [decide_eq_true rfl]
  generalize fwd h bs = z
  go_wp2_with fail
  go_ret
  exact ⟨rfl, hb.trans (hb3.mono hb.size)⟩

set_option maxHeartbeats 400000 in
theorem backs_any (h : Int) (ao : Option Addr) (n c : Nat) (bs : List Int) (w : World) (_hh : U h) (hn : n ≤ 140737488351232) (hL : Lies w ao n c bs) (hby : ∀ x ∈ bs, By x) :
    Calls Try.prog 4 #[.int .u64 h, .slice ao n c] w fun e w' => e = .returned (.bool true) ∧ Below w.heap.size w w' := by
  go_enter Try.func4, Try.ntmps4
  go_wp2_with fail
  refine (known_any w).mono ?_
  rintro e w1 ⟨rfl, hb1⟩
  have hL1 := hL.below hb1 (Nat.le_refl _)
  clear hL
  go_wp2_with fail
  refine (roomy_any ao n c bs _ hn hL1).mono ?_
  rintro e w2 ⟨g, cap, rfl, hown, hb2⟩
  have hW := Lies.own hown
  have hL2 := hL1.below hb2 (Nat.le_refl _)
  have hcap : n ≤ cap := Nat.le_trans (Nat.le_add_right _ _) hW.hle
  have hcapi : (n : Int) ≤ cap := by omega
  have hF := hW.front hL2.hlen (by omega)
  have hb := hb1.trans (hb2.mono hb1.size)
  clear hL1 hb1 hb2 hown
  go_wp2_with fail
  refine (back_any _ _ n cap bs _ (by omega) hF hby).mono ?_
  rintro e w3 ⟨rfl, hw3⟩
  subst w3
  go_wp2_with fail
  refine (rback_any _ ao n c bs _ (by omega) hL2 hby).mono ?_
  rintro e w3 ⟨rfl, hw3⟩
  subst w3
  go_wp2_with fail
  refine (stays_any _ ao (n + 9) n cap c (bs ++ marks 9) bs _ (by omega) hn hW hL2).mono ?_
  rintro e w3 ⟨rfl, hb3⟩
  rw [decide_eq_true rfl]
  generalize bwd h bs = z
  go_wp2_with fail
  go_ret
  exact ⟨rfl, hb.trans (hb3.mono hb.size)⟩

end Go.Proofs.Ytnnebmgiifnckab
