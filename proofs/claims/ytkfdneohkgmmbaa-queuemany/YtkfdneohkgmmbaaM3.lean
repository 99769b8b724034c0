/- Push of a queue of structs of one client, by its contract. -/
import Derived.Test.YtkfdneohkgmmbaaM1
namespace Go.Proofs.Ytkfdneohkgmmbaa
open Go.RowKit
set_option maxRecDepth 100000
attribute [local go_sem ↓] Go.wp_at_zero Go.wp_at_succ

set_option maxHeartbeats 4000000 in
theorem push_M {w : World} {lab : Nat → Nat} {k qb P nx : Nat} (l : List (Int × Int × Int)) (hq : Qu KM w lab k qb P nx [l]) (v1 v2 v3 : Int) (hl : l.length < P) :
    Calls Try.prog 25 #[.pointer (some ⟨qb, 0, none⟩), .int .i64 0, .agg #[.int .i64 v1, .int .i64 v2, .int .i64 v3]] w fun e w' => e = .returned (.int .i64 0) ∧ Qu KM w' (rl lab w k) k qb P nx [l ++ [(v1, v2, v3)]] ∧ Turns (fun i => lab i = k) w w' := by
  obtain ⟨i0, hi, hz0, hz1, hz2⟩ := info_parts Try.infoEM
  obtain ⟨wb, vs, h⟩ := hq
  have b1 : Below w.heap.size w (w.alloc (IB v1 v2 v3)) := (Below.refl _ w).alloc (Nat.le_refl _) _
  have hQ := h.below b1 (k + 1)
  have hB0 : (w.alloc (IB v1 v2 v3)).heap[w.heap.size]? = some (IB v1 v2 v3) := heap_alloc_new _ _
  have lS : rl lab w (k + 1) w.heap.size = k + 1 := rl_new (Nat.le_refl _)
  obtain ⟨W, hW⟩ : ∃ x, w.alloc (IB v1 v2 v3) = x := ⟨_, rfl⟩
  rw [hW] at b1 hQ hB0
  have hv0 : vs.length = 1 := h.len
  have c0 := hQ.c0
  have c2 := hQ.c2
  have hrow := hQ.own 0 (by omega) (by simp)
  have cw := hQ.cw 0 (by omega)
  obtain ⟨ao, cap, hv⟩ := own_slice hrow
  have hwne : vs[0].ownBlock ≠ some wb := own_typ hrow hQ.row KM.ne2
  have hqne : vs[0].ownBlock ≠ some qb := own_typ hrow hQ.box KM.ne1
  have hsne : vs[0].ownBlock ≠ some w.heap.size := fun q => by have := hQ.lv 0 (by omega) _ q; rw [lS] at this; omega
  rw [hv] at cw hrow hwne hqne hsne
  simp only [List.getElem_cons_zero, List.length_cons, List.length_nil, Nat.zero_add] at cw c2 hrow hwne hqne hsne
  have hP := h.hP
  have hwl := heap_lt hQ.row
  have hql := heap_lt hQ.box
  have hR := hQ.row
  have hfw := hQ.fw 0
  have a3 : (l.length : Int) < P := by omega
  have a4 : (P : Int) ≤ 64 := by omega
  have e0 : W.cell? ⟨w.heap.size, 0, none⟩ = some (.int .i64 v1) := cell_of_row _ _ 0 _ _ _ hB0
  have e1 : W.cell? ⟨w.heap.size, 1, none⟩ = some (.int .i64 v2) := cell_of_row _ _ 1 _ _ _ hB0
  have e2 : W.cell? ⟨w.heap.size, 2, none⟩ = some (.int .i64 v3) := cell_of_row _ _ 2 _ _ _ hB0
  obtain ⟨m, hm⟩ : ∃ m, l.length = m := ⟨_, rfl⟩
  have HM : Hid (l.length = m) := hm
  have HV : Hid (vs[0] = .slice ao m cap) := by rw [← hm]; exact hv
  have HQ : Hid (Qx KM W (rl lab w (k + 1)) k qb wb P nx vs [l]) := hQ
  have HWW : Hid (w.alloc (IB v1 v2 v3) = W) := hW
  rw [hm] at cw hrow hwne hqne hsne a3 hl
  obtain ⟨s0, hs0⟩ : ∃ s0, w.heap.size = s0 := ⟨_, rfl⟩
  have HS0 : Hid (w.heap.size = s0) := hs0
  rw [hs0] at hB0 lS e0 e1 e2 hsne
  clear hQ hv hm hW h
  go_enter Try.func25, Try.ntmps25
  go_wp2_with fail
  rw [HWW.out]
  refine (is_yesM HQ.out 0 (by simp)).mono ?_
  rintro e wn ⟨rfl, hwn⟩
  subst wn
  clear hs0
  go_wp2_with fail
  go_quiet (fail)
  have hrd : (W.drewN nq).drew.ownsRow 0 43 3 (.slice ao m cap) m (l.flatMap KM.cs) := hrow
  have bD : Below W.heap.size W (W.drewN (nq + 1)) := ⟨rfl, rfl, rfl, Nat.le_refl _, fun _ _ => rfl⟩
  have bA : Below W.heap.size W ((W.drewN (nq + 1)).alloc (IB v1 v2 v3)) := bD.alloc (Nat.le_refl _) _
  have n1 : ((W.drewN (nq + 1)).alloc (IB v1 v2 v3)).cell? ⟨wb, 0, none⟩ = some (.slice ao m cap) := (World.cell?_of_block (w := W) (a := ⟨wb, 0, none⟩) (bA.block wb hwl)).trans cw
  have n2 : ((W.drewN (nq + 1)).alloc (IB v1 v2 v3)).cell? ⟨qb, 2, none⟩ = some (.slice (some ⟨wb, 0, none⟩) 1 1) := (World.cell?_of_block (w := W) (a := ⟨qb, 2, none⟩) (bA.block qb hql)).trans c2
  go_wp2_with fail
  go_region_law
    (first
      | (refine step_append_lies _ rfl _ _ 41 rfl 0 43 i0 (.agg #[.int .i64 0, .int .i64 0, .int .i64 0]) 3 24 Try.underlying41 hi hz0 hz1 hz2 rfl (by decide) _ m _ rfl (World.ownsRow.alloc hrd _) ⟨W.heap.size, 0, none⟩ 1 1 [.int .i64 v1, .int .i64 v2, .int .i64 v3] rfl rfl (World.news_of_block (heap_alloc_new _ _)) (by intro u hu; simp at hu; rcases hu with rfl | rfl | rfl <;> rfl) (by decide) (by unfold maxLen; omega) (by omega) (Nat.zero_le _) _ rfl ?_; intro gC cC wC hoC hgC hatC hltC; have tC := ((Turns.drewN _ W nq).trans (Turns.drewN _ (W.drewN nq) 1) (fun _ _ h => h)).trans ((Turns.alloc _ _ _).trans (Turns.grown (F := fun i => (Value.slice ao m cap).ownBlock = some i) hgC (fun b hb => hb)) (fun _ _ h => h)) (fun _ _ h => h); have hrC := (tC.block wb hwl hwne).trans hR; have f3 : wC.cell? ⟨wb, 0, none⟩ = some vs[0] := by { simp [World.cell?, hrC, hv0] }; have q3 : wC.cell? ⟨qb, 2, none⟩ = some (.slice (some ⟨wb, 0, none⟩) 1 1) := (World.cell?_of_block (w := W) (a := ⟨qb, 2, none⟩) (tC.block qb hql hqne)).trans c2; have z3 : wC.frozen? ⟨wb, 0, none⟩ = false := by { simp [World.frozen?, hrC] })
      | fail)
  all_goals
    clear f3 z3 q3 hrC n1 n2
    have hE : (l ++ [(v1, v2, v3)]).length = m + 1 := by simp [HM.out]
    have hS := HQ.out.stored 0 (by simp) (.slice (some ⟨gC, 0, none⟩) (m + 1) cC) (l ++ [(v1, v2, v3)]) (by rw [HV.out]; exact tC) (by rw [hE]; simpa [KM] using hoC) (fun b hb => by
      cases hb
      rcases hatC with q | q
      · left; rw [HV.out]; exact q
      · right; show W.heap.size ≤ gC; simp at q; omega) (by omega)
    clear hoC hgC hatC hltC tC
    go_wp2_with fail
    go_ret
    have hF := Qu.boxed (s0 := s0) b1 hS (by rw [HS0.out]; exact Nat.le_refl _) (heap_lt hB0) (Turns.refl _ _)
    exact ⟨rfl, hF.1, hF.2⟩
end Go.Proofs.Ytkfdneohkgmmbaa
