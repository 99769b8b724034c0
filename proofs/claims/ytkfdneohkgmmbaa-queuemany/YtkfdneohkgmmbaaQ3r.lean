/- The document's own queue: Pop, by its contract. -/
import Derived.Test.YtkfdneohkgmmbaaQ2r
namespace Go.Proofs.Ytkfdneohkgmmbaa
open Go.RowKit
set_option maxRecDepth 100000
attribute [local go_sem ↓] Go.wp_at_zero Go.wp_at_succ

theorem Li.empty (w : World) (a : Addr) (cap : Nat) : Li w (some a) 0 cap [] := ⟨rfl, Nat.zero_le _, (fun h => by cases h), fun _ _ t u hu => by simp at hu⟩
theorem Li.rest {w : World} {g cap : Nat} {x : Int} {l : List Int} (h : Li w (some ⟨g, 0, none⟩) (l.length + 1) cap (x :: l)) : Li w (some ⟨g, 1, none⟩) l.length (cap - 1) l :=
  ⟨rfl, by have := h.hle; omega, (fun h => by cases h), fun ad had t u hu => by
    obtain rfl := Option.some.inj had
    have := h.hcells _ rfl (t + 1) u (by simpa using hu)
    rw [Addr.add_lit] at this ⊢
    rwa [show 0 + (t + 1) = 1 + t by omega] at this⟩
set_option maxHeartbeats 4000000 in
theorem rpop_ok {w : World} {lab : Nat → Nat} {k qb P la : Nat} {L : List (List Int)} (hq : Ru KR w lab k qb P la L) (i c : Nat) (hi : i < L.length) (hcn : c < L.length) (hc : (la + 1 + i) % L.length = c) (hb : ∀ j, j < i → L.getD ((la + 1 + j) % L.length) [] = []) (x : Int) (l : List Int) (hl : L[c] = x :: l) :
    Calls Try.prog 36 #[.pointer (some ⟨qb, 0, none⟩)] w fun e w' => e = .returned (.tuple #[.int .i64 c, .int .i64 x, .bool true]) ∧ Ru KR w' (rl lab w k) k qb P c (L.set c l) ∧ Turns (fun i => lab i = k) w w' := by
  obtain ⟨wb, vs, h⟩ := hq
  have h1 := h.c1
  have h2 := h.c2
  have hx := h.hx
  have hn := h.hn
  have hP := h.hP
  have hcv : c < vs.length := by rw [h.len]; exact hcn
  have hrow := h.own c hcv hcn
  have hle := h.le c hcn
  rw [hl] at hrow hle
  rw [List.length_cons] at hrow hle
  obtain ⟨g, cap, hv, hcap⟩ : ∃ g cap, vs[c] = .slice (some ⟨g, 0, none⟩) (l.length + 1) cap ∧ l.length + 1 ≤ cap ∧ cap ≤ maxLen := by
    rcases own_shape hrow with ⟨_, q⟩ | ⟨g, cap, q, q1, q2⟩
    · omega
    · exact ⟨g, cap, q, q1, q2⟩
  rw [hv, show (x :: l).flatMap KR.cs = (x :: l).map (Value.int .i64) from flatI _] at hrow
  have hLi : Li w (some ⟨g, 0, none⟩) (l.length + 1) cap (x :: l) := Li.own hrow
  have x0 := hrow.cellAt 0 (show 0 < (l.length + 1) * 1 by omega)
  simp at x0
  have hwc := h.cw c hcv
  rw [hv] at hwc
  have hwl := heap_lt h.row
  have hql := heap_lt h.box
  have hR := h.row
  obtain ⟨n, hN⟩ : ∃ n, L.length = n := ⟨_, rfl⟩
  have HN : Hid (L.length = n) := hN
  have HH : Hid (Rx KR w lab k qb wb P la vs L) := h
  have HB : Hid (∀ j, j < i → L.getD ((la + 1 + j) % L.length) [] = []) := hb
  have HV : Hid (vs[c] = .slice (some ⟨g, 0, none⟩) (l.length + 1) cap) := hv
  rw [hN] at h2 hi hx hn hc
  have hcn' : c < n := by rw [← hN]; exact hcn
  have a1 : (la : Int) < n := by omega
  have a2 : (n : Int) ≤ 64 := by omega
  have a3 : (i : Int) < n := by omega
  have a4 : (1 : Int) ≤ n := by omega
  have hwv : ∀ y, y < n → ∃ ao m cap, w.cell? ⟨wb, y, none⟩ = some (.slice ao m cap) ∧ m = (L.getD y []).length := fun y hy => by
    obtain ⟨ao, cap, e⟩ := own_slice (h.own y (by rw [h.len]; omega) (by omega))
    refine ⟨ao, _, cap, by rw [h.cw y (by rw [h.len]; omega), e], ?_⟩
    simp [List.getD, show y < L.length by omega]
  have HW : Hid (∀ y, y < n → ∃ ao m cap, w.cell? ⟨wb, y, none⟩ = some (.slice ao m cap) ∧ m = (L.getD y []).length) := hwv
  have HC : Hid ((la + 1 + i) % n = c) := hc
  have hqw : qb ≠ wb := by
    rintro rfl
    have := HH.out.box; rw [HH.out.row] at this
    exact KR.ne3 (Obj.cells.inj (Option.some.inj this)).2.1.symm
  clear hN hwv hv h hb hc hrow
  obtain ⟨m, hm⟩ : ∃ m, l.length = m := ⟨_, rfl⟩
  have HM : Hid (l.length = m) := hm
  rw [hm] at hle hcap hLi hwc
  obtain ⟨cap1, cap2⟩ := hcap
  have c1 : (m : Int) + 1 ≤ cap := by omega
  have c2 : (m : Int) < 64 := by omega
  have c3 : (cap : Int) ≤ 9223372036854775807 := by unfold maxLen at cap2; omega
  have c4 : (1 : Int) ≤ cap := by omega
  have c5 : (0 : Int) < (m : Int) + 1 := by omega
  have hn0 : ¬ n = 0 := by omega
  go_enter Try.func36, Try.ntmps36
  go_wp2_with fail
  go_loop [6] (fun t => ∃ j : Nat, j ≤ i ∧ t = .int .i64 ((j : Int) + 1)) (fun t => i + 2 - (intOf t).toNat)
  case atStart => exact ⟨0, Nat.zero_le _, rfl⟩
  case round =>
    obtain ⟨j, hj, rfl⟩ := hrel
    have b1 : (j : Int) < n := by omega
    have hmd : ((la : Int) + ((j : Int) + 1)) % (n : Int) = (((la + 1 + j) % n : Nat) : Int) := by
      rw [show (la : Int) + ((j : Int) + 1) = ((la + 1 + j : Nat) : Int) by omega]
      simp
    have hyl : (la + 1 + j) % n < n := Nat.mod_lt _ (by omega)
    by_cases hlt : j < i
    · obtain ⟨ao, m', cap', hw, hm'⟩ := HW.out ((la + 1 + j) % n) hyl
      have hz : m' = 0 := by
        have := HB.out j hlt
        rw [HN.out] at this
        rw [hm', this]; rfl
      subst hz
      clear hm'
      generalize (la + 1 + j) % n = y at hw hyl hmd
      have b2 : (y : Int) < n := by omega
      go_wp2_with fail
      go_round
      case rel => exact ⟨j + 1, by omega, by go_num⟩
      case measure => simp [intOf]; omega
    · obtain rfl : j = i := by omega
      rw [HC.out] at hmd hyl
      have b2 : (c : Int) < n := by omega
      have hRest : Li w (some ⟨g, 1, none⟩) m (cap - 1) l := by
        have := Li.rest (w := w) (g := g) (cap := cap) (x := x) (l := l) (by rw [HM.out]; exact hLi)
        rwa [HM.out] at this
      have hRd : Li w.drew (some ⟨g, 1, none⟩) m (cap - 1) l := ⟨hRest.hlen, hRest.hle, hRest.hnone, hRest.hcells⟩
      have c6 : (1 : Int) ≤ (m : Int) + 1 := by omega
      have w1 : IntKind.i64.wrap 1 = 1 := rfl
      by_cases hc1 : cap = 1
      · obtain rfl : m = 0 := by omega
        subst hc1
        have hl0 : l = [] := List.eq_nil_of_length_eq_zero HM.out
        have hEm : Li w.drew (some ⟨g, 0, none⟩) 0 0 l := by rw [hl0]; exact Li.empty _ _ _
        clear hl0
        go_wp2_with fail
        go_region_law
          (first
            | (go_simp; go_at_call 40; refine (ints_any (some ⟨g, 0, none⟩) 0 0 l w.drew hEm (by omega)).mono ?_; rintro e wI ⟨vI, rfl, oI, bI⟩; obtain ⟨aI, cI, rfl⟩ := own_slice oI; have bJ : Below w.heap.size w wI := ⟨bI.os, bI.tape, bI.output, bI.size, bI.block⟩; have hrI := (bJ.block wb hwl).trans hR; have f3 : wI.cell? ⟨wb, c, none⟩ = some vs[c] := by { simp [World.cell?, hrI, hcv] }; have q3 : wI.cell? ⟨qb, 0, none⟩ = some (.slice (some ⟨wb, 0, none⟩) n n) := (World.cell?_of_block (w := w) (a := ⟨qb, 0, none⟩) (bJ.block qb hql)).trans h2; have z3 : wI.frozen? ⟨wb, c, none⟩ = false := by { simp [World.frozen?, hrI] }; dsimp only)
            | fail)
        all_goals
          clear f3 z3 q3 hrI
          have h := HH.out
          obtain ⟨W, hW⟩ : ∃ W, wI.setCell ⟨wb, c, none⟩ (.slice aI 0 cI) = W := ⟨_, rfl⟩
          have hS := h.stored c hcn (.slice aI 0 cI) l (Below.turns bJ _) (by
            rw [show l.flatMap KR.cs = l.map (Value.int .i64) from flatI _, HM.out]
            exact ownsRow_mono oI (Nat.zero_le _)) (fun b hb => Or.inr (own_ge oI hb)) (by rw [HM.out]; omega)
          rw [hW] at hS ⊢
          obtain ⟨hS1, hS2⟩ := hS
          clear hW oI bI bJ h
          obtain ⟨wb2, vs2, hS1⟩ := hS1
          have k2 := hS1.c1
          have k3 := hS1.f1 2
          have hNx := hS1.next c (by simpa using hcn)
          obtain ⟨W2, hW2⟩ : ∃ W2, W.setCell ⟨qb, 2, none⟩ (.int .i64 c) = W2 := ⟨_, rfl⟩
          rw [hW2] at hNx
          have HW2 : Hid (W.setCell ⟨qb, 2, none⟩ (.int .i64 c) = W2) := hW2
          clear hS1 hW2
          go_wp2_with fail
          go_ret3
          rw [HW2.out]
          refine ⟨rfl, ⟨_, _, hNx.1⟩, hS2.trans hNx.2 (fun i hi q => ?_)⟩
          rwa [rl_old hi] at q
      · have hcp : ¬ 1 = cap := fun q => hc1 q.symm
        go_wp2_with fail
        go_region_law
          (first
            | (go_simp; go_at_call 40; refine (ints_any (some ⟨g, 1, none⟩) m (cap - 1) l w.drew hRd (by omega)).mono ?_; rintro e wI ⟨vI, rfl, oI, bI⟩; obtain ⟨aI, cI, rfl⟩ := own_slice oI; have bJ : Below w.heap.size w wI := ⟨bI.os, bI.tape, bI.output, bI.size, bI.block⟩; have hrI := (bJ.block wb hwl).trans hR; have f3 : wI.cell? ⟨wb, c, none⟩ = some vs[c] := by { simp [World.cell?, hrI, hcv] }; have q3 : wI.cell? ⟨qb, 0, none⟩ = some (.slice (some ⟨wb, 0, none⟩) n n) := (World.cell?_of_block (w := w) (a := ⟨qb, 0, none⟩) (bJ.block qb hql)).trans h2; have z3 : wI.frozen? ⟨wb, c, none⟩ = false := by { simp [World.frozen?, hrI] }; dsimp only)
            | fail)
        all_goals
          clear f3 z3 q3 hrI
          have h := HH.out
          obtain ⟨W, hW⟩ : ∃ W, wI.setCell ⟨wb, c, none⟩ (.slice aI m cI) = W := ⟨_, rfl⟩
          have hS := h.stored c hcn (.slice aI m cI) l (Below.turns bJ _) (by
            rw [show l.flatMap KR.cs = l.map (Value.int .i64) from flatI _, HM.out]
            exact ownsRow_mono oI (Nat.zero_le _)) (fun b hb => Or.inr (own_ge oI hb)) (by rw [HM.out]; omega)
          rw [hW] at hS ⊢
          obtain ⟨hS1, hS2⟩ := hS
          clear hW oI bI bJ h
          obtain ⟨wb2, vs2, hS1⟩ := hS1
          have k2 := hS1.c1
          have k3 := hS1.f1 2
          have hNx := hS1.next c (by simpa using hcn)
          obtain ⟨W2, hW2⟩ : ∃ W2, W.setCell ⟨qb, 2, none⟩ (.int .i64 c) = W2 := ⟨_, rfl⟩
          rw [hW2] at hNx
          have HW2 : Hid (W.setCell ⟨qb, 2, none⟩ (.int .i64 c) = W2) := hW2
          clear hS1 hW2
          go_wp2_with fail
          go_ret3
          rw [HW2.out]
          refine ⟨rfl, ⟨_, _, hNx.1⟩, hS2.trans hNx.2 (fun i hi q => ?_)⟩
          rwa [rl_old hi] at q

set_option maxHeartbeats 1000000 in
theorem rpop_no {w : World} {lab : Nat → Nat} {k qb P la : Nat} {L : List (List Int)} (hq : Ru KR w lab k qb P la L) (hb : ∀ j, j < L.length → L.getD j [] = []) :
    Calls Try.prog 36 #[.pointer (some ⟨qb, 0, none⟩)] w fun e w' => e = .returned (.tuple #[.int .i64 0, .int .i64 0, .bool false]) ∧ w' = w := by
  obtain ⟨wb, vs, h⟩ := hq
  have h1 := h.c1
  have h2 := h.c2
  have hx := h.hx
  have hn := h.hn
  obtain ⟨n, hN⟩ : ∃ n, L.length = n := ⟨_, rfl⟩
  rw [hN] at h2 hx hn hb
  have HB : Hid (∀ j, j < n → L.getD j [] = []) := hb
  have a1 : (la : Int) < n := by omega
  have a2 : (n : Int) ≤ 64 := by omega
  have a4 : (1 : Int) ≤ n := by omega
  have hwv : ∀ y, y < n → ∃ ao m cap, w.cell? ⟨wb, y, none⟩ = some (.slice ao m cap) ∧ m = (L.getD y []).length := fun y hy => by
    obtain ⟨ao, cap, e⟩ := own_slice (h.own y (by rw [h.len]; omega) (by omega))
    refine ⟨ao, _, cap, by rw [h.cw y (by rw [h.len]; omega), e], ?_⟩
    simp [List.getD, show y < L.length by omega]
  have HW : Hid (∀ y, y < n → ∃ ao m cap, w.cell? ⟨wb, y, none⟩ = some (.slice ao m cap) ∧ m = (L.getD y []).length) := hwv
  clear hN hwv h hb
  go_enter Try.func36, Try.ntmps36
  go_wp2_with fail
  go_loop [6] (fun t => ∃ j : Nat, j ≤ n ∧ t = .int .i64 ((j : Int) + 1)) (fun t => n + 2 - (intOf t).toNat)
  case atStart => exact ⟨0, Nat.zero_le _, rfl⟩
  case round =>
    obtain ⟨j, hj, rfl⟩ := hrel
    by_cases hlt : j < n
    · have b1 : (j : Int) < n := by omega
      have hmd : ((la : Int) + ((j : Int) + 1)) % (n : Int) = (((la + 1 + j) % n : Nat) : Int) := by
        rw [show (la : Int) + ((j : Int) + 1) = ((la + 1 + j : Nat) : Int) by omega]
        simp
      have hyl : (la + 1 + j) % n < n := Nat.mod_lt _ (by omega)
      obtain ⟨ao, m', cap', hw, hm'⟩ := HW.out ((la + 1 + j) % n) hyl
      have hz : m' = 0 := by
        rw [hm', HB.out _ hyl]; rfl
      subst hz
      clear hm'
      generalize (la + 1 + j) % n = y at hw hyl hmd
      have b2 : (y : Int) < n := by omega
      go_wp2_with fail
      go_round
      case rel => exact ⟨j + 1, by omega, by go_num⟩
      case measure => simp [intOf]; omega
    · obtain rfl : j = n := by omega
      go_wp2_with fail
      go_ret3
      exact ⟨rfl, rfl⟩
end Go.Proofs.Ytkfdneohkgmmbaa
