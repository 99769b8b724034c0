/- Push of a queue of ints, by its contract. -/
import Derived.Test.YtkfdneohkgmmbaaQ2i
import Derived.Deep.AppendLies
import Derived.Deep.RegionLaw
import Derived.Deep.RegionHeldLaw
import Derived.Deep.DrawnRows
namespace Go.Proofs.Ytkfdneohkgmmbaa
open Go.RowKit
set_option maxRecDepth 100000
attribute [local go_sem ↓] Go.wp_at_zero Go.wp_at_succ

theorem push_noI {w : World} {lab : Nat → Nat} {k qb wb P nx : Nat} {vs : List Value} {L : List (List Int)} (h : Qx KI w lab k qb wb P nx vs L) (c : Int) (v : Int) (hc : c < 0 ∨ (L.length : Int) ≤ c) :
    Calls Try.prog 12 #[.pointer (some ⟨qb, 0, none⟩), .int .i64 c, .int .i64 v] w fun e w' => e = .returned (.int .i64 1) ∧ w' = w := by
  go_enter Try.func12, Try.ntmps12
  go_wp2_with (go_at_call 31; refine (is_noI h c hc).mono ?_; rintro e wn ⟨rfl, hwn⟩; subst wn)
  go_ret
  exact ⟨rfl, rfl⟩
set_option maxHeartbeats 1000000 in
theorem push_fullI {w : World} {lab : Nat → Nat} {k qb wb P nx : Nat} {vs : List Value} {L : List (List Int)} (h : Qx KI w lab k qb wb P nx vs L) (c : Nat) (v : Int) (hc : c < L.length) (hl : L[c].length = P) :
    Calls Try.prog 12 #[.pointer (some ⟨qb, 0, none⟩), .int .i64 c, .int .i64 v] w fun e w' => e = .returned (.int .i64 141) ∧ ∃ m, w' = w.drewN m := by
  have hcv : c < vs.length := by rw [h.len]; exact hc
  obtain ⟨ao, cap, hv⟩ := own_slice (h.own c hcv hc)
  have h0 := h.c0
  have h2 := h.c2
  have hw := h.cw c hcv
  rw [hv, hl] at hw
  have a1 : (c : Int) < L.length := by omega
  clear hv
  go_enter Try.func12, Try.ntmps12
  go_wp2_with (go_at_call 31; refine (is_yesI h c hc).mono ?_; rintro e wn ⟨rfl, hwn⟩; subst wn; clear h hl)
  go_quiet (fail)
  go_wp2
  go_ret
  exact ⟨rfl, _, rfl⟩
set_option maxHeartbeats 2000000 in
theorem push_okI {w : World} {lab : Nat → Nat} {k qb wb P nx : Nat} {vs : List Value} {L : List (List Int)} (h : Qx KI w lab k qb wb P nx vs L) (c : Nat) (v : Int) (hc : c < L.length) (hl : L[c].length < P) :
    Calls Try.prog 12 #[.pointer (some ⟨qb, 0, none⟩), .int .i64 c, .int .i64 v] w fun e w' => e = .returned (.int .i64 0) ∧ Qu KI w' (rl lab w k) k qb P nx (L.set c (L[c] ++ [v])) ∧ Turns (fun i => lab i = k) w w' := by
  obtain ⟨i0, hi, hz0, hz1, hz2⟩ := info_parts Try.infoEI
  have hcv : c < vs.length := by rw [h.len]; exact hc
  have hrow := h.own c hcv hc
  obtain ⟨ao, cap, hv⟩ := own_slice hrow
  have h0 := h.c0
  have h2 := h.c2
  have hw := h.cw c hcv
  have hf := h.fw c
  have hP := h.hP
  have hwl := heap_lt h.row
  have hql := heap_lt h.box
  have hR := h.row
  have hwne : vs[c].ownBlock ≠ some wb := own_typ hrow h.row KI.ne2
  have hqne : vs[c].ownBlock ≠ some qb := own_typ hrow h.box KI.ne1
  rw [hv] at hw hrow hwne hqne
  have a1 : (c : Int) < L.length := by omega
  have a2 : (0 : Int) ≤ c := by omega
  obtain ⟨m, hm⟩ : ∃ m, L[c].length = m := ⟨_, rfl⟩
  rw [hm] at hw hrow hl hwne hqne
  have a3 : (m : Int) < P := by omega
  have a4 : (P : Int) ≤ 64 := by omega
  have HV : Hid (vs[c] = .slice ao m cap) := by rw [← hm]; exact hv
  have HM : Hid (L[c].length = m) := hm
  have HH : Hid (Qx KI w lab k qb wb P nx vs L) := h
  clear hv hm
  go_enter Try.func12, Try.ntmps12
  go_wp2_with (go_at_call 31; refine (is_yesI h c hc).mono ?_; rintro e wn ⟨rfl, hwn⟩; subst wn; clear h)
  go_quiet (fail)
  have hrd : (w.drewN nq).drew.ownsRow 0 3 1 (.slice ao m cap) m (L[c].flatMap KI.cs) := hrow
  have n1 : ((w.drewN (nq + 1)).alloc (.cells #[.int .i64 v] 3)).cell? ⟨wb, c, none⟩ = some (.slice ao m cap) := (World.cell?_of_block (w := w) (a := ⟨wb, c, none⟩) (Below.heap_alloc (w.drewN (nq + 1)) _ wb hwl)).trans hw
  have n2 : ((w.drewN (nq + 1)).alloc (.cells #[.int .i64 v] 3)).cell? ⟨qb, 2, none⟩ = some (.slice (some ⟨wb, 0, none⟩) L.length L.length) := (World.cell?_of_block (w := w) (a := ⟨qb, 2, none⟩) (Below.heap_alloc (w.drewN (nq + 1)) _ qb hql)).trans h2
  go_wp2
  go_region_law
    (first
      | (refine step_append_lies _ rfl _ _ 40 rfl 0 3 i0 (.int .i64 0) 1 8 Try.underlying40 hi hz0 hz1 hz2 rfl (by decide) _ m _ rfl (World.ownsRow.alloc hrd _) ⟨w.heap.size, 0, none⟩ 1 1 [.int .i64 v] rfl rfl (cell_one_new _ _ _) (by intro u hu; simp at hu; subst hu; rfl) (by decide) (by unfold maxLen; omega) (by omega) (Nat.zero_le _) _ rfl ?_; intro gC cC wC hoC hgC hatC hltC; have tC := ((Turns.drewN _ w nq).trans (Turns.drewN _ (w.drewN nq) 1) (fun _ _ h => h)).trans ((Turns.alloc _ _ _).trans (Turns.grown (F := fun i => (Value.slice ao m cap).ownBlock = some i) hgC (fun b hb => hb)) (fun _ _ h => h)) (fun _ _ h => h); have hrC := (tC.block wb hwl hwne).trans hR; have f3 : wC.cell? ⟨wb, c, none⟩ = some vs[c] := by { simp [World.cell?, hrC, hcv] }; have q3 : wC.cell? ⟨qb, 2, none⟩ = some (.slice (some ⟨wb, 0, none⟩) L.length L.length) := (World.cell?_of_block (w := w) (a := ⟨qb, 2, none⟩) (tC.block qb hql hqne)).trans h2; have z3 : wC.frozen? ⟨wb, c, none⟩ = false := by { simp [World.frozen?, hrC] })
      | fail)
  all_goals
    clear f3 z3 q3 hrC
    go_wp2
    go_ret
    have h := HH.out
    have hE : (L[c] ++ [v]).length = m + 1 := by simp [HM.out]
    have hS := h.stored c hc (.slice (some ⟨gC, 0, none⟩) (m + 1) cC) (L[c] ++ [v]) (by rw [HV.out]; exact tC) (by rw [hE]; simpa [KI] using hoC) (fun b hb => by
      cases hb
      rcases hatC with q | q
      · left; rw [HV.out]; exact q
      · right; show w.heap.size ≤ gC; simp at q; omega) (by omega)
    exact ⟨rfl, hS.1, hS.2⟩
end Go.Proofs.Ytkfdneohkgmmbaa
