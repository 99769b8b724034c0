/- names.Join, names.Add, names.Parent, names.Under, slices.Equal of texts. -/
import Derived.Test.YtknneihkkagnfaaSplit
import Derived.Test.YtknneihkkagnfaaSame
namespace Go.Proofs.Ytknneihkkagnfaa
open Go.RowKit
set_option maxRecDepth 100000

theorem allN_judge {xs : List ByteArray} (h : xs.length ≤ 16) : allN xs = judge (xs.map bs) := by
  unfold allN judge
  rw [if_neg (show ¬ 16 < (xs.map bs).length by simp; omega), List.all_map]
  rfl
theorem judge_small {xs : List ByteArray} (h : judge (xs.map bs) = 0) : xs.length ≤ 16 ∧ ∀ x, x ∈ xs → x.size ≤ 23 := by
  obtain ⟨h1, h2⟩ := judge_zero.1 h
  refine ⟨by simpa using h1, fun x hx => ?_⟩
  rw [size_bs]
  exact (okName_len (h2 _ (List.mem_map_of_mem hx))).2

set_option maxHeartbeats 1000000 in
theorem join_any (ao : Option Addr) (n c : Nat) (xs : List ByteArray) (w : World) (hn : n ≤ 200000000000000) (hA : Lies w ao n c xs) :
    Calls Try.prog 10 #[.slice ao n c] w fun e w' => e = .returned (.tuple #[.string (tx (joinT (xs.map bs))), .int .i64 (judge (xs.map bs))]) ∧ Below w.heap.size w w' := by
  obtain rfl := hA.hlen
  go_enter Try.func10, Try.ntmps10
  by_cases h16 : 16 < xs.length
  · have h16' : (16 : Int) < xs.length := by omega
    have hj : judge (xs.map bs) = 33 := by unfold judge; rw [if_pos (by simpa using h16)]
    have hjt : joinT (xs.map bs) = [] := by unfold joinT; rw [hj, if_neg (by decide)]
    rw [hj, hjt]
    go_wp2
    go_ret2
    exact ⟨rfl, Below.refl _ _⟩
  · have h16' : ¬ (16 : Int) < xs.length := by omega
    have hall := allN_judge (xs := xs) (by omega)
    have hsm := judge_small (xs := xs)
    have hjt : Hid (joinT (xs.map bs) = if judge (xs.map bs) = 0 then pathT (xs.map bs) else []) := ⟨rfl⟩
    generalize joinT (xs.map bs) = T at hjt
    generalize judge (xs.map bs) = J at hall hsm hjt
    have hJ : J = 0 ∨ ¬ J = 0 := by omega
    have Hsm : Hid (J = 0 → xs.length ≤ 16 ∧ ∀ x, x ∈ xs → x.size ≤ 23) := ⟨hsm⟩
    clear hsm
    go_wp2_with fail
    refine (checkAll_any _ _ _ _ _ (by omega) hA).mono ?_
    rintro e w2 ⟨rfl, hb2⟩
    rw [hall]
    have hA2 := hA.below hb2 (Nat.le_refl _)
    rcases hJ with hJ | hJ
    · subst hJ
      obtain ⟨_, hs⟩ := Hsm.out rfl
      have hT := hjt.out
      rw [if_pos rfl] at hT
      subst hT
      go_wp2_with fail
      refine (pathOf_any _ _ _ _ _ (by omega) hA2 hs).mono ?_
      rintro e w3 ⟨rfl, hb3⟩
      go_wp2
      go_ret2
      exact ⟨rfl, hb2.trans (hb3.mono hb2.size)⟩
    · have hJ' : (J == 0) = false := by simpa using hJ
      have hT := hjt.out
      rw [if_neg hJ] at hT
      subst hT
      go_wp2
      go_ret2
      exact ⟨rfl, hb2⟩
end Go.Proofs.Ytknneihkkagnfaa
