/- take of a queue of ints, by its contract. -/
import Derived.Test.YtkfdneohkgmmbaaQ4i
import Derived.Deep.RegionLaw
namespace Go.Proofs.Ytkfdneohkgmmbaa
open Go.RowKit
set_option maxRecDepth 100000
attribute [local go_sem ↓] Go.wp_at_zero Go.wp_at_succ

set_option maxHeartbeats 2000000 in
theorem take_I {w : World} {lab : Nat → Nat} {k qb wb P nx : Nat} {vs : List Value} {L : List (List Int)} (h : Qx KI w lab k qb wb P nx vs L) (c : Nat) (hc : c < L.length) (x : Int) (l : List Int) (hl : L[c] = x :: l) :
    Calls Try.prog 30 #[.pointer (some ⟨qb, 0, none⟩), .int .i64 c] w fun e w' => e = .returned (.int .i64 x) ∧ Qu KI w' (rl lab w k) k qb P nx (L.set c l) ∧ Turns (fun i => lab i = k) w w' := by
  have hcv : c < vs.length := by rw [h.len]; exact hc
  have hrow := h.own c hcv hc
  have hle := h.le c hc
  have hP := h.hP
  rw [hl] at hrow hle
  rw [List.length_cons] at hrow hle
  obtain ⟨g, cap, hv⟩ : ∃ g cap, vs[c] = .slice (some ⟨g, 0, none⟩) (l.length + 1) cap := by
    rcases own_shape hrow with ⟨_, q⟩ | ⟨g, cap, q, _⟩
    · omega
    · exact ⟨g, cap, q⟩
  have h2 := h.c2
  have hw := h.cw c hcv
  have hwl := heap_lt h.row
  have hql := heap_lt h.box
  have hR := h.row
  have hwne : vs[c].ownBlock ≠ some wb := own_typ hrow h.row KI.ne2
  have hqne : vs[c].ownBlock ≠ some qb := own_typ hrow h.box KI.ne1
  rw [hv] at hw hrow hwne hqne
  have hwg : ¬ wb = g := fun e => hwne (by rw [e]; rfl)
  have hqg : ¬ qb = g := fun e => hqne (by rw [e]; rfl)
  have a1 : (c : Int) < L.length := by omega
  have a2 : (0 : Int) ≤ c := by omega
  have a3 : (l.length : Int) < 64 := by omega
  have hll : l.length < 64 := by omega
  have hlp : l.length ≤ P := by omega
  have a5 : (0 : Int) < (l.length + 1 : Nat) := by omega
  have x0 := hrow.cellAt 0 (by have : 0 < (l.length + 1) * 1 := by omega
                               exact this)
  simp [KI] at x0
  have HV : Hid (vs[c] = .slice (some ⟨g, 0, none⟩) (l.length + 1) cap) := hv
  have HH : Hid (Qx KI w lab k qb wb P nx vs L) := h
  have hrd : w.drew.ownsRow 0 3 1 (.slice (some ⟨g, 0, none⟩) (l.length + 1) cap) (l.length + 1) ((x :: l).flatMap KI.cs) := hrow
  clear hv h hl hle hwne hqne hrow
  go_enter Try.func30, Try.ntmps30
  go_wp2_with fail
  go_region_law
    (first
      | (go_simp; go_at_call 43; refine (delete_I x l g cap hrd hll).mono ?_; rintro e wD ⟨rfl, hoD, tD⟩; have tC := (Turns.drewN _ w 1).trans tD (fun _ _ h => h); have hrC := (tC.block wb hwl hwg).trans hR; have f3 : wD.cell? ⟨wb, c, none⟩ = some vs[c] := by { simp [World.cell?, hrC, hcv] }; have q3 : wD.cell? ⟨qb, 2, none⟩ = some (.slice (some ⟨wb, 0, none⟩) L.length L.length) := (World.cell?_of_block (w := w) (a := ⟨qb, 2, none⟩) (tC.block qb hql hqg)).trans h2; have z3 : wD.frozen? ⟨wb, c, none⟩ = false := by { simp [World.frozen?, hrC] }; dsimp only)
      | fail)
  all_goals
    clear f3 z3 q3 hrC
    go_wp2_with fail
    go_ret
    have h := HH.out
    have hS := h.stored c hc (.slice (some ⟨g, 0, none⟩) l.length cap) l (by rw [HV.out]; exact tC.mono (fun i _ q => by rw [q]; rfl)) hoD (fun b hb => by
      cases hb
      left; rw [HV.out]; rfl) hlp
    exact ⟨rfl, hS.1, hS.2⟩
end Go.Proofs.Ytkfdneohkgmmbaa
