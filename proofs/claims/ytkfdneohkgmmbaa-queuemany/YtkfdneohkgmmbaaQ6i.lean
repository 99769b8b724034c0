/- Pop of a queue of ints, by its contract. -/
import Derived.Test.YtkfdneohkgmmbaaQ5i
namespace Go.Proofs.Ytkfdneohkgmmbaa
open Go.RowKit
set_option maxRecDepth 100000

set_option maxHeartbeats 2000000 in
theorem pop_okI {w : World} {lab : Nat → Nat} {k qb P nx : Nat} {L : List (List Int)} (hq : Qu KI w lab k qb P nx L) (i c : Nat) (hi : i < L.length) (hcn : c < L.length) (hc : (nx + i) % L.length = c) (hb : ∀ j, j < i → L.getD ((nx + j) % L.length) [] = []) (x : Int) (l : List Int) (hl : L[c] = x :: l) :
    Calls Try.prog 11 #[.pointer (some ⟨qb, 0, none⟩)] w fun e w' => e = .returned (.tuple #[.int .i64 c, .int .i64 x, .bool true]) ∧ Qu KI w' (rl lab w k) k qb P ((c + 1) % L.length) (L.set c l) ∧ Turns (fun i => lab i = k) w w' := by
  obtain ⟨wb, vs, h⟩ := hq
  have h1 := h.c1
  have h2 := h.c2
  have hx := h.hx
  have hn := h.hn
  obtain ⟨n, hN⟩ : ∃ n, L.length = n := ⟨_, rfl⟩
  have HN : Hid (L.length = n) := hN
  have HH : Hid (Qx KI w lab k qb wb P nx vs L) := h
  have HB : Hid (∀ j, j < i → L.getD ((nx + j) % L.length) [] = []) := hb
  have HC : Hid ((nx + i) % n = c) := by rw [← hN]; exact hc
  rw [hN] at h2 hi hx hn
  have hcn' : c < n := by rw [← hN]; exact hcn
  have a1 : (nx : Int) < n := by omega
  have a2 : (n : Int) ≤ 64 := by omega
  have a3 : (i : Int) < n := by omega
  have hvl : vs.length = n := h.len.trans hN
  have hwv : ∀ y, y < n → ∃ ao m cap, w.cell? ⟨wb, y, none⟩ = some (.slice ao m cap) ∧ m = (L.getD y []).length := fun y hy => by
    obtain ⟨ao, cap, e⟩ := own_slice (h.own y (by omega) (by omega))
    refine ⟨ao, _, cap, by rw [h.cw y (by omega), e], ?_⟩
    simp [List.getD, show y < L.length by omega]
  have HW : Hid (∀ y, y < n → ∃ ao m cap, w.cell? ⟨wb, y, none⟩ = some (.slice ao m cap) ∧ m = (L.getD y []).length) := hwv
  have HV : Hid (vs.length = n) := hvl
  clear hN hwv hvl h hb hc
  go_enter Try.func11, Try.ntmps11
  go_wp2_with fail
  go_loop [13] (fun t => ∃ j : Nat, j ≤ i ∧ t = .int .i64 j) (fun t => i + 1 - (intOf t).toNat)
  case atStart => exact ⟨0, Nat.zero_le _, rfl⟩
  case round =>
    obtain ⟨j, hj, rfl⟩ := hrel
    have b1 : (j : Int) < n := by omega
    by_cases hlt : j < i
    · have hyl : (nx + j) % n < n := Nat.mod_lt _ (by omega)
      obtain ⟨ao, m, cap, hw, hm⟩ := HW.out ((nx + j) % n) hyl
      have hz : m = 0 := by
        have := HB.out j hlt
        rw [HN.out] at this
        rw [hm, this]; rfl
      subst hz
      clear hm
      obtain ⟨y, hy⟩ : ∃ y, (nx + j) % n = y := ⟨_, rfl⟩
      rw [hy] at hw hyl
      have HY : Hid ((nx + j) % n = y) := hy
      clear hy
      have b2 : (y : Int) < n := by omega
      go_wp2_with (go_at_call 29; refine (behind_I HH.out nx j (by rw [HN.out]; exact hx) (by rw [HN.out]; omega)).mono ?_; rw [HN.out, HY.out]; rintro e wn ⟨rfl, hwn⟩; subst wn)
      go_round
      case rel => exact ⟨j + 1, by omega, by go_num⟩
      case measure => simp [intOf]; omega
    · obtain rfl : j = i := by omega
      obtain ⟨ao, m, cap, hw, hm⟩ := HW.out c hcn'
      have hz : m = l.length + 1 := by
        rw [hm]
        simp [List.getD, hcn, hl]
      subst hz
      clear hm
      have b2 : (c : Int) < n := by omega
      have b3 : (0 : Int) < (l.length + 1 : Nat) := by omega
      have hf := HH.out.f1 1
      have hdl : (c + 1) % n < n := Nat.mod_lt _ (by omega)
      obtain ⟨d, hd⟩ : ∃ d, (c + 1) % n = d := ⟨_, rfl⟩
      have HD : Hid ((c + 1) % n = d) := hd
      rw [hd] at hdl
      clear hd
      have HX := HH.out.next d (by rw [HN.out]; exact hdl)
      obtain ⟨W, hW⟩ : ∃ W, w.setCell ⟨qb, 1, none⟩ (.int .i64 d) = W := ⟨_, rfl⟩
      rw [hW] at HX
      have HWW : Hid (w.setCell ⟨qb, 1, none⟩ (.int .i64 d) = W) := hW
      clear hW
      obtain ⟨HX, TX⟩ := HX
      go_wp2_with fail
      refine (behind_I HH.out nx j (by rw [HN.out]; exact hx) (by rw [HN.out]; omega)).mono ?_
      rw [HN.out, HC.out]
      rintro e wn ⟨rfl, hwn⟩
      subst wn
      go_wp2_with fail
      refine (behind_I HH.out c 1 (by rw [HN.out]; exact hcn') (by rw [HN.out]; omega)).mono ?_
      rw [HN.out, HD.out]
      rintro e wn ⟨rfl, hwn⟩
      subst wn
      go_wp2_with fail
      rw [HWW.out]
      refine (take_I HX c hcn x l hl).mono ?_
      rintro e wn ⟨rfl, hq, ht⟩
      have hs : W.heap.size = w.heap.size := by rw [← HWW.out]; simp [World.setCell]
      rw [rl_same hs] at hq
      go_wp2_with fail
      go_ret3
      exact ⟨rfl, by rw [HN.out, HD.out]; exact hq, TX.trans ht (fun _ _ q => q)⟩

set_option maxHeartbeats 2000000 in
theorem pop_noI {w : World} {lab : Nat → Nat} {k qb P nx : Nat} {L : List (List Int)} (hq : Qu KI w lab k qb P nx L) (hb : ∀ j, j < L.length → L.getD j [] = []) :
    Calls Try.prog 11 #[.pointer (some ⟨qb, 0, none⟩)] w fun e w' => e = .returned (.tuple #[.int .i64 0, .int .i64 0, .bool false]) ∧ w' = w := by
  obtain ⟨wb, vs, h⟩ := hq
  have h1 := h.c1
  have h2 := h.c2
  have hx := h.hx
  have hn := h.hn
  obtain ⟨n, hN⟩ : ∃ n, L.length = n := ⟨_, rfl⟩
  have HN : Hid (L.length = n) := hN
  have HH : Hid (Qx KI w lab k qb wb P nx vs L) := h
  rw [hN] at h2 hx hn hb
  have HB : Hid (∀ j, j < n → L.getD j [] = []) := hb
  have a1 : (nx : Int) < n := by omega
  have a2 : (n : Int) ≤ 64 := by omega
  have hvl : vs.length = n := h.len.trans hN
  have hwv : ∀ y, y < n → ∃ ao m cap, w.cell? ⟨wb, y, none⟩ = some (.slice ao m cap) ∧ m = (L.getD y []).length := fun y hy => by
    obtain ⟨ao, cap, e⟩ := own_slice (h.own y (by omega) (by omega))
    refine ⟨ao, _, cap, by rw [h.cw y (by omega), e], ?_⟩
    simp [List.getD, show y < L.length by omega]
  have HW : Hid (∀ y, y < n → ∃ ao m cap, w.cell? ⟨wb, y, none⟩ = some (.slice ao m cap) ∧ m = (L.getD y []).length) := hwv
  clear hN hwv hvl h hb
  go_enter Try.func11, Try.ntmps11
  go_wp2_with fail
  go_loop [13] (fun t => ∃ j : Nat, j ≤ n ∧ t = .int .i64 j) (fun t => n + 1 - (intOf t).toNat)
  case atStart => exact ⟨0, Nat.zero_le _, rfl⟩
  case round =>
    obtain ⟨j, hj, rfl⟩ := hrel
    by_cases hlt : j < n
    · have hyl : (nx + j) % n < n := Nat.mod_lt _ (by omega)
      obtain ⟨ao, m, cap, hw, hm⟩ := HW.out ((nx + j) % n) hyl
      have hz : m = 0 := by
        rw [hm, HB.out _ hyl]; rfl
      subst hz
      clear hm
      obtain ⟨y, hy⟩ : ∃ y, (nx + j) % n = y := ⟨_, rfl⟩
      rw [hy] at hw hyl
      have HY : Hid ((nx + j) % n = y) := hy
      clear hy
      have b1 : (j : Int) < n := by omega
      have b2 : (y : Int) < n := by omega
      go_wp2_with (go_at_call 29; refine (behind_I HH.out nx j (by rw [HN.out]; exact hx) (by rw [HN.out]; omega)).mono ?_; rw [HN.out, HY.out]; rintro e wn ⟨rfl, hwn⟩; subst wn)
      go_round
      case rel => exact ⟨j + 1, by omega, by go_num⟩
      case measure => simp [intOf]; omega
    · obtain rfl : j = n := by omega
      go_wp2_with fail
      go_ret3
      exact ⟨rfl, rfl⟩
end Go.Proofs.Ytkfdneohkgmmbaa
