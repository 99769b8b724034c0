/- annexlaw2.SumUndoes and SumApart by their walks. -/
import Derived.Test.YtnnebmgiifnckaaKnown
namespace Go.Proofs.Ytnnebmgiifnckaa
open Go.RowKit
set_option maxRecDepth 100000

set_option maxHeartbeats 400000 in
theorem undoes_any (h : Int) (ao : Option Addr) (n c : Nat) (bs : List Int) (w : World) (hh : U h) (hn : n ≤ 140737488351232) (hL : Lies w ao n c bs) (hby : ∀ x ∈ bs, By x) :
    Calls Try.prog 3 #[.int .u64 h, .slice ao n c] w fun e w' => e = .returned (.bool true) ∧ Below w.heap.size w w' := by
  have e1 := bwd_fwd bs hby hh
  have e2 := fwd_bwd bs hby hh
  have E1 : Hid _ := e1
  have E2 : Hid _ := e2
  clear e1 e2
  go_enter Try.func3, Try.ntmps3
  go_wp2_with fail
  refine (known_any w).mono ?_
  rintro e w1 ⟨rfl, hb⟩
  have hL1 := hL.below hb (Nat.le_refl _)
  clear hL
  go_wp2_with fail
  refine (more_any _ ao n c bs _ (by omega) hL1 hby).mono ?_
  rintro e w2 ⟨rfl, hw2⟩
  subst w2
  go_wp2_with fail
  refine (back_any _ ao n c bs _ (by omega) hL1 hby).mono ?_
  rintro e w2 ⟨rfl, hw2⟩
  subst w2
  rw [E1.out]
  go_wp2_with fail
  refine (back_any _ ao n c bs _ (by omega) hL1 hby).mono ?_
  rintro e w2 ⟨rfl, hw2⟩
  subst w2
  go_wp2_with fail
  refine (more_any _ ao n c bs _ (by omega) hL1 hby).mono ?_
  rintro e w2 ⟨rfl, hw2⟩
  subst w2
  rw [E2.out]
  go_wp2_with fail
  go_ret
  exact ⟨rfl, hb⟩

theorem beq_of_iff {a b c d : Int} (h : a = b ↔ c = d) : (a == b) = (c == d) := by
  rw [Bool.eq_iff_iff]; simpa using h

set_option maxHeartbeats 400000 in
theorem apart_any (g h : Int) (ao : Option Addr) (n c : Nat) (bs : List Int) (w : World) (hg : U g) (hh : U h) (hn : n ≤ 140737488351232) (hL : Lies w ao n c bs) (hby : ∀ x ∈ bs, By x) :
    Calls Try.prog 4 #[.int .u64 g, .int .u64 h, .slice ao n c] w fun e w' => e = .returned (.bool true) ∧ Below w.heap.size w w' := by
  have e1 := beq_of_iff (fwd_inj bs hby hg hh)
  have e2 := beq_of_iff (bwd_inj bs hby hg hh)
  have E : Hid (_ ∧ _) := ⟨e1, e2⟩
  clear e1 e2
  go_enter Try.func4, Try.ntmps4
  go_wp2_with fail
  refine (known_any w).mono ?_
  rintro e w1 ⟨rfl, hb⟩
  have hL1 := hL.below hb (Nat.le_refl _)
  clear hL
  go_wp2_with fail
  refine (more_any _ ao n c bs _ (by omega) hL1 hby).mono ?_
  rintro e w2 ⟨rfl, hw2⟩
  subst w2
  go_wp2_with fail
  refine (more_any _ ao n c bs _ (by omega) hL1 hby).mono ?_
  rintro e w2 ⟨rfl, hw2⟩
  subst w2
  go_wp2_with fail
  refine (back_any _ ao n c bs _ (by omega) hL1 hby).mono ?_
  rintro e w2 ⟨rfl, hw2⟩
  subst w2
  go_wp2_with fail
  refine (back_any _ ao n c bs _ (by omega) hL1 hby).mono ?_
  rintro e w2 ⟨rfl, hw2⟩
  subst w2
  obtain ⟨e1, e2⟩ := E.out
  generalize fwd g bs = a1 at *
  generalize fwd h bs = a2 at *
  generalize bwd g bs = a3 at *
  generalize bwd h bs = a4 at *
  go_wp2_with fail
  go_ret
  exact ⟨rfl, hb⟩
end Go.Proofs.Ytnnebmgiifnckaa
