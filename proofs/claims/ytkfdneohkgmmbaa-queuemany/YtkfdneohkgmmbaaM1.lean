/- take of a queue of structs, by its contract. -/
import Derived.Test.YtkfdneohkgmmbaaQ4m
namespace Go.Proofs.Ytkfdneohkgmmbaa
open Go.RowKit
set_option maxRecDepth 100000
attribute [local go_sem ↓] Go.wp_at_zero Go.wp_at_succ

theorem rl_rl (lab : Nat → Nat) (w w1 : World) (k : Nat) (h : w.heap.size ≤ w1.heap.size) : rl (rl lab w k) w1 k = rl lab w k := by
  funext i
  unfold rl
  by_cases h1 : i < w1.heap.size
  · rw [if_pos h1]
  · rw [if_neg h1, if_neg (by omega)]
theorem Qx.relab {E : Type} {K : Kd E} {w : World} {lab lab' : Nat → Nat} {k qb wb P nx : Nat} {vs : List Value} {L : List (List E)} (h : Qx K w lab k qb wb P nx vs L) (hl : ∀ i, lab i = k → lab' i = k) : Qx K w lab' k qb wb P nx vs L :=
  { h with lq := hl _ h.lq, lw := hl _ h.lw, lv := fun i h1 b hb => hl b (h.lv i h1 b hb) }
theorem Qu.relab {E : Type} {K : Kd E} {w : World} {lab lab' : Nat → Nat} {k qb P nx : Nat} {L : List (List E)} (h : Qu K w lab k qb P nx L) (hl : ∀ i, lab i = k → lab' i = k) : Qu K w lab' k qb P nx L := by
  obtain ⟨wb, vs, h⟩ := h
  exact ⟨wb, vs, h.relab hl⟩
/-- Boxes that are not the queue's were made first, and one of them is written at the end. -/
theorem Qu.boxed {E : Type} {K : Kd E} {w W W3 W4 : World} {lab : Nat → Nat} {k qb P nx s0 : Nat} {L : List (List E)} (hW : Below w.heap.size w W) (h : Qu K W3 (rl (rl lab w (k + 1)) W k) k qb P nx L ∧ Turns (fun i => rl lab w (k + 1) i = k) W W3) (h0 : w.heap.size ≤ s0) (h1 : s0 < W.heap.size) (t : Turns (fun i => i = s0) W3 W4) : Qu K W4 (rl lab w k) k qb P nx L ∧ Turns (fun i => lab i = k) w W4 := by
  obtain ⟨q, t3⟩ := h
  have hs := hW.size
  refine ⟨(q.turns t (fun i _ hl e => ?_) (fun _ _ => rfl)).relab (fun i hi => ?_), ((Below.turns hW (fun i => lab i = k)).trans t3 (fun i hi e => ?_)).trans t (fun i hi e => ?_)⟩
  · subst e
    rw [rl_old h1, rl_new h0] at hl
    omega
  · rcases Nat.lt_or_ge i w.heap.size with r | r
    · rw [rl_old r]
      rw [rl_old (by omega), rl_old r] at hi
      exact hi
    · exact rl_new r
  · rwa [rl_old hi] at e
  · omega
abbrev IB (a b c : Int) : Obj := .cells #[.int .i64 a, .int .i64 b, .int .i64 c] 43
set_option maxHeartbeats 4000000 in
theorem take_M {w : World} {lab : Nat → Nat} {k qb wb P nx : Nat} {vs : List Value} {L : List (List (Int × Int × Int))} (h : Qx KM w lab k qb wb P nx vs L) (c : Nat) (hc : c < L.length) (x1 x2 x3 : Int) (l : List (Int × Int × Int)) (hl : L[c] = (x1, x2, x3) :: l) :
    Calls Try.prog 42 #[.pointer (some ⟨qb, 0, none⟩), .int .i64 c] w fun e w' => e = .returned (.agg #[.int .i64 x1, .int .i64 x2, .int .i64 x3]) ∧ Qu KM w' (rl lab w k) k qb P nx (L.set c l) ∧ Turns (fun i => lab i = k) w w' := by
  have hcv : c < vs.length := by rw [h.len]; exact hc
  have hrow := h.own c hcv hc
  have hle := h.le c hc
  have hP := h.hP
  rw [hl] at hrow hle
  rw [List.length_cons] at hrow hle
  obtain ⟨g, cap, hv⟩ : ∃ g cap, vs[c] = .slice (some ⟨g, 0, none⟩) (l.length + 1) cap := by
    rcases own_shape hrow with ⟨_, q⟩ | ⟨g, cap, q, _⟩
    · omega
    · exact ⟨g, cap, q⟩
  have h2 := h.c2
  have hw := h.cw c hcv
  have hwl := heap_lt h.row
  have hql := heap_lt h.box
  have hR := h.row
  have hwne : vs[c].ownBlock ≠ some wb := own_typ hrow h.row KM.ne2
  have hqne : vs[c].ownBlock ≠ some qb := own_typ hrow h.box KM.ne1
  rw [hv] at hw hrow hwne hqne
  have hgl : g < w.heap.size := own_lt hrow (b := g) rfl
  have hwg : ¬ wb = g := fun e => hwne (by rw [e]; rfl)
  have hqg : ¬ qb = g := fun e => hqne (by rw [e]; rfl)
  have a1 : (c : Int) < L.length := by omega
  have a2 : (0 : Int) ≤ c := by omega
  have a3 : (l.length : Int) < 64 := by omega
  have hll : l.length < 64 := by omega
  have hlp : l.length ≤ P := by omega
  have a5 : (0 : Int) < (l.length + 1 : Nat) := by omega
  have x0 := hrow.cellAt 0 (show 0 < (l.length + 1) * 3 by omega)
  have y0 := hrow.cellAt 1 (show 1 < (l.length + 1) * 3 by omega)
  have z0 := hrow.cellAt 2 (show 2 < (l.length + 1) * 3 by omega)
  simp [KM] at x0 y0 z0
  have HV : Hid (vs[c] = .slice (some ⟨g, 0, none⟩) (l.length + 1) cap) := hv
  have HH : Hid (Qx KM w lab k qb wb P nx vs L) := h
  have b2 : Below w.heap.size w ((w.alloc (IB 0 0 0)).alloc (IB x1 x2 x3)) := ((Below.refl _ w).alloc (Nat.le_refl _) _).alloc (by simp) _
  have hB0 : ((w.alloc (IB 0 0 0)).alloc (IB x1 x2 x3)).heap[w.heap.size]? = some (IB 0 0 0) := by rw [Below.heap_alloc _ _ _ (by simp), heap_alloc_new]
  have hB1 : ((w.alloc (IB 0 0 0)).alloc (IB x1 x2 x3)).heap[w.heap.size + 1]? = some (IB x1 x2 x3) := by
    have := heap_alloc_new (w.alloc (IB 0 0 0)) (IB x1 x2 x3)
    simpa using this
  have hrd : ((w.alloc (IB 0 0 0)).alloc (IB x1 x2 x3)).drew.ownsRow 0 43 3 (.slice (some ⟨g, 0, none⟩) (l.length + 1) cap) (l.length + 1) (((x1, x2, x3) :: l).flatMap KM.cs) := World.ownsRow.alloc (World.ownsRow.alloc hrow _) _
  clear hv h hl hle hwne hqne hrow
  go_enter Try.func42, Try.ntmps42
  go_wp2_with fail
  obtain ⟨W, hW⟩ : ∃ x, (w.alloc (IB 0 0 0)).alloc (IB x1 x2 x3) = x := ⟨_, rfl⟩
  rw [hW] at b2 hB0 hB1 hrd ⊢
  have h2W := (World.cell?_of_block (w := w) (a := ⟨qb, 2, none⟩) (b2.block qb hql)).trans h2
  have hwW := (World.cell?_of_block (w := w) (a := ⟨wb, c, none⟩) (b2.block wb hwl)).trans hw
  have hRW := (b2.block wb hwl).trans hR
  have hQW := HH.out.below b2 (k + 1)
  have HQW : Hid (Qx KM W (rl lab w (k + 1)) k qb wb P nx vs L) := hQW
  have HB2 : Hid (Below w.heap.size w W) := b2
  have hzW := b2.size
  have hgW : ¬ w.heap.size = g := by omega
  have hgW1 : ¬ w.heap.size + 1 = g := by omega
  have hwW0 : ¬ w.heap.size = wb := by omega
  have hwW1 : ¬ w.heap.size + 1 = wb := by omega
  clear hW hQW x0 y0 z0 h2 hw hR b2
  have hwlW := heap_lt hRW
  have hqlW : qb < W.heap.size := by omega
  obtain ⟨s0, hs0⟩ : ∃ s0, w.heap.size = s0 := ⟨_, rfl⟩
  have HS0 : Hid (w.heap.size = s0) := hs0
  rw [hs0] at hB0 hB1 hgW hgW1 hwW0 hwW1 hzW hgl hwl hql ⊢
  clear hs0
  go_region_law
    (first
      | (go_simp; go_at_call 45; refine (delete_M (x1, x2, x3) l g cap hrd hll).mono ?_; rintro e wD ⟨rfl, hoD, tD⟩; have tC := (Turns.drewN _ W 1).trans tD (fun _ _ h => h); have hrC := (tC.block wb hwlW hwg).trans hRW; have f3 : wD.cell? ⟨wb, c, none⟩ = some vs[c] := by { simp [World.cell?, hrC, hcv] }; have q3 : wD.cell? ⟨qb, 2, none⟩ = some (.slice (some ⟨wb, 0, none⟩) L.length L.length) := (World.cell?_of_block (w := W) (a := ⟨qb, 2, none⟩) (tC.block qb hqlW hqg)).trans h2W; have z3 : wD.frozen? ⟨wb, c, none⟩ = false := by { simp [World.frozen?, hrC] }; dsimp only)
      | fail)
  all_goals
    have hS := HQW.out.stored c hc (.slice (some ⟨g, 0, none⟩) l.length cap) l (by rw [HV.out]; exact tC.mono (fun i _ q => by rw [q]; rfl)) hoD (fun b hb => by
      cases hb
      left; rw [HV.out]; rfl) hlp
    have k0 : (wD.setCell ⟨wb, c, none⟩ (.slice (some ⟨g, 0, none⟩) l.length cap)).heap[s0]? = some (IB 0 0 0) := ((Turns.cell wD wb c _).block s0 (Nat.lt_of_lt_of_le (heap_lt hB0) tC.size) hwW0).trans ((tC.block s0 (heap_lt hB0) hgW).trans hB0)
    have k1 : (wD.setCell ⟨wb, c, none⟩ (.slice (some ⟨g, 0, none⟩) l.length cap)).heap[s0 + 1]? = some (IB x1 x2 x3) := ((Turns.cell wD wb c _).block (s0 + 1) (Nat.lt_of_lt_of_le (heap_lt hB1) tC.size) hwW1).trans ((tC.block (s0 + 1) (heap_lt hB1) hgW1).trans hB1)
    clear f3 z3 q3 hrC hoD tD tC
    obtain ⟨W3, hW3⟩ : ∃ x, wD.setCell ⟨wb, c, none⟩ (.slice (some ⟨g, 0, none⟩) l.length cap) = x := ⟨_, rfl⟩
    rw [hW3] at hS k0 k1 ⊢
    clear hW3
    have u0 : W3.cell? ⟨s0, 0, none⟩ = some (.int .i64 0) := by simp [World.cell?, k0]
    have u1 : W3.cell? ⟨s0, 1, none⟩ = some (.int .i64 0) := by simp [World.cell?, k0]
    have u2 : W3.cell? ⟨s0, 2, none⟩ = some (.int .i64 0) := by simp [World.cell?, k0]
    have uf : ∀ o, W3.frozen? ⟨s0, o, none⟩ = false := fun o => by simp [World.frozen?, k0]
    have u3 : W3.cell? ⟨s0 + 1, 0, none⟩ = some (.int .i64 x1) := by simp [World.cell?, k1]
    have u4 : W3.cell? ⟨s0 + 1, 1, none⟩ = some (.int .i64 x2) := by simp [World.cell?, k1]
    have u5 : W3.cell? ⟨s0 + 1, 2, none⟩ = some (.int .i64 x3) := by simp [World.cell?, k1]
    go_wp2_with fail
    have hF := Qu.boxed HB2.out hS (s0 := s0) (by rw [HS0.out]; exact Nat.le_refl _) (heap_lt hB0) (((Turns.cell W3 s0 0 (.int .i64 x1)).trans (Turns.cell _ s0 1 (.int .i64 x2)) (fun _ _ q => q)).trans (Turns.cell _ s0 2 (.int .i64 x3)) (fun _ _ q => q))
    exact bodyPost_ret (v := .agg #[.int .i64 x1, .int .i64 x2, .int .i64 x3]) (by simp [results, Try.results42, go_sem, u0, u1, u2]) rfl ⟨rfl, hF.1, hF.2⟩
end Go.Proofs.Ytkfdneohkgmmbaa
