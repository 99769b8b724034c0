/- room; SameInodes of two equal lists. -/
import Derived.Test.YtlcjkbhcbiggcaaGreatDoorB9
namespace Go.Proofs.YtlcjkbhcbiggcaaGreatDoor
open Go.RowKit Go.Maps
set_option maxRecDepth 100000

set_option maxHeartbeats 2000000 in
theorem room9_any {w0 w : World} {wb N : Nat} {c : Kc} {i : Nat} {F : Nat → Prop} {v : Nat → List Int} {ks : List Nat} {m : Nat} {T : Nat → Rec} (h : St w0 w wb N c i F v ks m T) (hk : ks.length ≤ 1000) (n : Nat) (hn : n ≤ 1000) :
    Calls Tryz.prog 20 #[.pointer (some ⟨wb, 0, none⟩), .int .i64 (n : Nat)] w fun e w' => e = .returned (.bool (decide (ks.length + n ≤ 24))) ∧ Below w.heap.size w w' := by
  have k1 := h.cells.1
  go_enter Tryz.func20, Tryz.ntmps20
  go_wp2_with fail
  refine (h.tv.blocks hk).mono ?_
  rintro e w2 ⟨g, cp, rfl, _, b2⟩
  obtain ⟨K, hK⟩ : ∃ K, ks.length = K := ⟨_, rfl⟩
  rw [hK] at hk ⊢
  have hw : IntKind.i64.wrap ((K : Int) + (n : Int)) = ((K + n : Nat) : Int) := by rw [Go.IntWalk.i64_in _ ⟨by omega, by omega⟩]; omega
  go_wp2_with fail
  go_ret
  refine ⟨?_, b2⟩
  have e : decide ((K : Int) + (n : Int) ≤ 24) = decide (ks.length + n ≤ 24) := by
    by_cases q : K + n ≤ 24
    · rw [decide_eq_true (show ks.length + n ≤ 24 by omega), decide_eq_true (by omega)]
    · rw [decide_eq_false (show ¬ ks.length + n ≤ 24 by omega), decide_eq_false (by omega)]
  rw [← e]
  rfl
attribute [local go_sem ↓ 100000] in_load
set_option maxHeartbeats 4000000 in
theorem sames_any {w : World} {b1 b2 : Nat} {uv lv : Value} {L : List Ino} (h1 : w.ownsRow b1 38 13 uv L.length (inLs L)) (h2 : w.ownsRow b2 38 13 lv L.length (inLs L)) (hL : L.length ≤ 100000) :
    Calls Tryz.prog 13 #[uv, lv] w fun e w' => e = .returned (.bool true) ∧ Below w.heap.size w w' := by
  obtain ⟨p1, c1, rfl, hp1⟩ := own_form h1
  obtain ⟨p2, c2, rfl, hp2⟩ := own_form h2
  obtain ⟨K, hK⟩ : ∃ K, L.length = K := ⟨_, rfl⟩
  rw [hK] at h1 h2 hp1 hp2 hL ⊢
  go_enter Tryz.func13, Tryz.ntmps13
  go_wp2_with fail
  go_loopw [5] (fun y wr => ∃ j : Nat, j ≤ K ∧ y = .int .i64 j ∧ Below w.heap.size w wr) (fun y _ => K - (intOf y).toNat)
  case atStart => exact ⟨0, by omega, rfl, Below.refl _ w⟩
  case round =>
    obtain ⟨j, hj, rfl, b3⟩ := hrel
    by_cases hjK : j = K
    · subst hjK
      go_wp2_with fail
      go_ret
      exact ⟨rfl, b3⟩
    · have hlt : j < K := by omega
      have hlti : (j : Int) < (K : Int) := by omega
      obtain ⟨g1, rfl⟩ := hp1 j hlt
      obtain ⟨g2, rfl⟩ := hp2 j hlt
      obtain ⟨x, hx⟩ : ∃ x, L[j]? = some x := ⟨_, List.getElem?_eq_getElem (by omega)⟩
      have bd : Below wr.heap.size wr wr.drew := (Below.refl _ wr).drew
      have e1 := InLoad.mid (own_in (own_on (own_on h1 b3) bd) hK.symm hx).all rfl
      have e2 := InLoad.mid (own_in (own_on (own_on h2 b3) bd) hK.symm hx).all rfl
      go_wp2_with fail
      go_region_law ((go_simp; go_at_call 38; refine (same_self _ x).mono ?_; rintro e w7 ⟨rfl, b7⟩; dsimp only))
      all_goals
        have b8 : Below w.heap.size w w7 := b3.trans ((bd.trans (b7.mono bd.size)).mono b3.size)
        clear e1 e2
        go_wp2_with fail
        exact ⟨⟨j + 1, by omega, rfl, b8⟩, by simp [intOf]; omega⟩
end Go.Proofs.YtlcjkbhcbiggcaaGreatDoor
