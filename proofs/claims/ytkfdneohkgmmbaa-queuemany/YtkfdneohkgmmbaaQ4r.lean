/- The document's own queue: Each, Len, Total, by their contracts. -/
import Derived.Test.YtkfdneohkgmmbaaQ3r
namespace Go.Proofs.Ytkfdneohkgmmbaa
open Go.RowKit
set_option maxRecDepth 100000

theorem reach_no {w : World} {lab : Nat → Nat} {k qb P nx : Nat} {L : List (List Int)} (hq : Ru KR w lab k qb P nx L) (c : Int) (hc : c < 0 ∨ (L.length : Int) ≤ c) :
    Calls Try.prog 26 #[.pointer (some ⟨qb, 0, none⟩), .int .i64 c] w fun e w' => e = .returned (.slice none 0 0) ∧ w' = w := by
  obtain ⟨wb, vs, h⟩ := hq
  have h2 := h.c2
  have hn := h.hn
  clear h
  by_cases h0 : c < 0
  · go_enter Try.func26, Try.ntmps26
    go_wp2
    go_ret
    exact ⟨rfl, rfl⟩
  · have a2 : (L.length : Int) ≤ c := by omega
    clear hc
    go_enter Try.func26, Try.ntmps26
    go_wp2
    go_ret
    exact ⟨rfl, rfl⟩
set_option maxHeartbeats 1000000 in
theorem reach_ok {w : World} {lab : Nat → Nat} {k qb P nx : Nat} {L : List (List Int)} (hq : Ru KR w lab k qb P nx L) (c : Nat) (hc : c < L.length) :
    Calls Try.prog 26 #[.pointer (some ⟨qb, 0, none⟩), .int .i64 c] w fun e w' => ∃ ao cap, e = .returned (.slice ao L[c].length cap) ∧ w'.ownsRow w.heap.size 3 1 (.slice ao L[c].length cap) L[c].length (L[c].map (Value.int .i64)) ∧ Below w.heap.size w w' := by
  obtain ⟨wb, vs, h⟩ := hq
  have hcv : c < vs.length := by rw [h.len]; exact hc
  have hrow := h.own c hcv hc
  obtain ⟨ao, cap, hv, hLi⟩ := Li.row (xs := L[c]) (by rw [show (L[c].map (Value.int .i64)) = L[c].flatMap KR.cs from (flatI L[c]).symm]; exact hrow)
  have hle := h.le c hc
  have hP := h.hP
  have h2 := h.c2
  have hw := h.cw c hcv
  rw [hv] at hw
  have a1 : (c : Int) < L.length := by omega
  clear hv hrow h
  go_enter Try.func26, Try.ntmps26
  go_wp2_with fail
  refine (ints_any ao L[c].length cap L[c] w hLi (by omega)).mono ?_
  rintro e w1 ⟨v1, rfl, o1, b1⟩
  obtain ⟨a2, c2, rfl⟩ := own_slice o1
  go_wp2_with fail
  go_ret
  exact ⟨a2, c2, rfl, o1, b1⟩
theorem rlen_no {w : World} {lab : Nat → Nat} {k qb P nx : Nat} {L : List (List Int)} (hq : Ru KR w lab k qb P nx L) (c : Int) (hc : c < 0 ∨ (L.length : Int) ≤ c) :
    Calls Try.prog 37 #[.pointer (some ⟨qb, 0, none⟩), .int .i64 c] w fun e w' => e = .returned (.int .i64 0) ∧ w' = w := by
  go_enter Try.func37, Try.ntmps37
  go_wp2_with fail
  refine (reach_no hq c hc).mono ?_
  rintro e w1 ⟨rfl, hw1⟩
  subst w1
  go_wp2_with fail
  go_ret
  exact ⟨rfl, rfl⟩
theorem rlen_ok {w : World} {lab : Nat → Nat} {k qb P nx : Nat} {L : List (List Int)} (hq : Ru KR w lab k qb P nx L) (c : Nat) (hc : c < L.length) :
    Calls Try.prog 37 #[.pointer (some ⟨qb, 0, none⟩), .int .i64 c] w fun e w' => e = .returned (.int .i64 L[c].length) ∧ Below w.heap.size w w' := by
  go_enter Try.func37, Try.ntmps37
  go_wp2_with fail
  refine (reach_ok hq c hc).mono ?_
  rintro e w1 ⟨a1, c1, rfl, o1, b1⟩
  go_wp2_with fail
  go_ret
  exact ⟨rfl, b1⟩
set_option maxHeartbeats 1000000 in
theorem rtotal_ok {w : World} {lab : Nat → Nat} {k qb P nx : Nat} {L : List (List Int)} (hq : Ru KR w lab k qb P nx L) :
    Calls Try.prog 38 #[.pointer (some ⟨qb, 0, none⟩)] w fun e w' => e = .returned (.int .i64 (tot L : Nat)) ∧ w' = w := by
  obtain ⟨wb, vs, h⟩ := hq
  have h2 := h.c2
  have hn := h.hn
  obtain ⟨n, hN⟩ : ∃ n, L.length = n := ⟨_, rfl⟩
  have HN : Hid (L.length = n) := hN
  have hwv : ∀ y, y < n → ∃ ao cap, w.cell? ⟨wb, y, none⟩ = some (.slice ao (L.getD y []).length cap) := fun y hy => by
    obtain ⟨ao, cap, e⟩ := own_slice (h.own y (by rw [h.len]; omega) (by omega))
    refine ⟨ao, cap, ?_⟩
    rw [h.cw y (by rw [h.len]; omega), e]
    simp [List.getD, show y < L.length by omega]
  have HW : Hid (∀ y, y < n → ∃ ao cap, w.cell? ⟨wb, y, none⟩ = some (.slice ao (L.getD y []).length cap)) := hwv
  have hP := h.hP
  have HT : Hid (∀ j, j < n → tot (L.take (j + 1)) = tot (L.take j) + (L.getD j []).length ∧ tot (L.take j) ≤ 4096 ∧ (L.getD j []).length ≤ 64) := fun j hj => by
    have e := tot_take L j (by omega)
    have f := tot_le L 64 (fun i h2 => Nat.le_trans (h.le i h2) hP) j (by omega)
    refine ⟨by rw [e]; simp [List.getD, show j < L.length by omega], by omega, ?_⟩
    have := h.le j (by omega)
    simp [List.getD, show j < L.length by omega]
    omega
  rw [hN] at h2 hn
  have a2 : (n : Int) ≤ 64 := by omega
  clear hN hwv h
  go_enter Try.func38, Try.ntmps38
  go_wp2_with fail
  go_loop [3, 4] (fun s t => ∃ j : Nat, j ≤ n ∧ t = .int .i64 j ∧ s = .int .i64 (tot (L.take j) : Nat)) (fun _ t => n + 1 - (intOf t).toNat)
  case atStart => exact ⟨0, Nat.zero_le _, rfl, by simp [tot]⟩
  case round =>
    obtain ⟨j, hj, rfl, rfl⟩ := hrel
    by_cases hlt : j < n
    · obtain ⟨ao, cap, hw⟩ := HW.out j hlt
      obtain ⟨e1, e2, e3⟩ := HT.out j hlt
      have E1 : Hid (tot (L.take (j + 1)) = tot (L.take j) + (L.getD j []).length) := e1
      clear e1
      have b1 : (j : Int) < n := by omega
      generalize (L.getD j []).length = m at *
      generalize tot (L.take j) = s at *
      have b2 : (m : Int) ≤ 64 := by omega
      have b3 : (s : Int) ≤ 4096 := by omega
      go_wp2_with fail
      go_round
      case rel => exact ⟨j + 1, by omega, by go_num, by rw [E1.out]; go_num⟩
      case measure => simp [intOf]; omega
    · obtain rfl : j = n := by omega
      go_wp2_with fail
      go_ret
      exact ⟨by rw [List.take_of_length_le (by rw [HN.out]; exact Nat.le_refl _)]; rfl, rfl⟩
end Go.Proofs.Ytkfdneohkgmmbaa
