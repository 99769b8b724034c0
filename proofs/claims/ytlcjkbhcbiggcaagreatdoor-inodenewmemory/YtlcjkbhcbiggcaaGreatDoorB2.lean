/- The book: lowest. -/
import Derived.Test.YtlcjkbhcbiggcaaGreatDoorB1
namespace Go.Proofs.YtlcjkbhcbiggcaaGreatDoor
open Go.RowKit Go.Maps
set_option maxRecDepth 100000

/-- Has none of the first n of the list the slot s? -/
def NoS (ls : List Ino) (s n : Nat) : Prop := ∀ (j : Nat) (y : Ino), j < n → ls[j]? = some y → y.id % 256 ≠ (s : Int)
/-- What lowest answers. -/
def LwR (ls : List Ino) (N s : Nat) : Prop := s ≤ N ∧ (∀ j, j < s → ¬ NoS ls j ls.length) ∧ (s < N → NoS ls s ls.length)
set_option maxHeartbeats 2000000 in
theorem lowest_any {w : World} {base : Nat} {lv : Value} {ls : List Ino} (h : w.ownsRow base 38 13 lv ls.length (inLs ls)) (hL : ls.length ≤ 100000) (hpos : ∀ (j : Nat) (y : Ino), ls[j]? = some y → 0 ≤ y.id) (N : Nat) (hN : N ≤ 256) :
    Calls Tryz.prog 58 #[lv, .int .i64 (N : Nat)] w fun e w' => ∃ s : Nat, e = .returned (.int .i64 s) ∧ w' = w ∧ Hid (LwR ls N s) := by
  obtain ⟨p, cap, rfl, hp⟩ := own_form h
  obtain ⟨L, hLe⟩ : ∃ L, ls.length = L := ⟨_, rfl⟩
  unfold LwR
  rw [hLe] at h hp hL ⊢
  go_enter Tryz.func58, Tryz.ntmps58
  go_wp2_with fail
  go_loopw [5] (fun x wr => ∃ s : Nat, s ≤ N ∧ x = .int .i64 s ∧ wr = w ∧ ∀ j, j < s → ¬ NoS ls j L) (fun x _ => N - (intOf x).toNat)
  case atStart => exact ⟨0, by omega, rfl, rfl, fun _ q => absurd q (by omega)⟩
  case round =>
    obtain ⟨s, hs, rfl, rfl, hb⟩ := hrel
    by_cases hsN : s = N
    · subst hsN
      go_wp2_with fail
      go_ret
      exact ⟨s, rfl, rfl, (show s ≤ s ∧ (∀ j, j < s → ¬ NoS ls j L) ∧ (s < s → NoS ls s L) from ⟨Nat.le_refl _, hb, fun q => absurd q (by omega)⟩)⟩
    · have hlt : s < N := by omega
      have hlti : (s : Int) < (N : Int) := by omega
      go_wp2_with fail
      go_loopw [6, 7] (fun f x wq => ∃ (n : Nat) (b : Bool), n ≤ L ∧ x = .int .i64 n ∧ f = .bool b ∧ wq = wr ∧ (b = true ↔ NoS ls s n)) (fun _ x _ => L - (intOf x).toNat)
      case atStart => exact ⟨0, true, by omega, rfl, rfl, rfl, ⟨fun _ _ _ q => absurd q (by omega), fun _ => rfl⟩⟩
      case round =>
        obtain ⟨n, b, hn, rfl, rfl, rfl, hbn⟩ := hrel
        by_cases hnL : n = L
        · subst hnL
          cases b with
          | true =>
            have hno := hbn.1 rfl
            go_wp2_with fail
            go_ret
            exact ⟨s, rfl, rfl, (show s ≤ N ∧ (∀ j, j < s → ¬ NoS ls j n) ∧ (s < N → NoS ls s n) from ⟨hs, hb, fun _ => hno⟩)⟩
          | false =>
            have hno : ¬ NoS ls s n := fun q => by have := hbn.2 q; cases this
            go_wp2_with fail
            refine ⟨⟨s + 1, by omega, rfl, trivial, fun j hj => ?_⟩, by simp [intOf]; omega⟩
            by_cases e : j = s
            · subst e; exact hno
            · exact hb j (by omega)
        · have hnlt : n < L := by omega
          have hnlti : (n : Int) < (L : Int) := by omega
          obtain ⟨g, rfl⟩ := hp n hnlt
          obtain ⟨x, hx⟩ : ∃ x, ls[n]? = some x := ⟨_, List.getElem?_eq_getElem (by omega)⟩
          have c0 := (own_in h hLe.symm hx).c0
          have hx0 := hpos n x hx
          obtain ⟨id, hid⟩ : ∃ id, x.id = id := ⟨_, rfl⟩
          rw [hid] at c0 hx0
          obtain ⟨r, hr⟩ : ∃ r, Int.tmod id 256 = r := ⟨_, rfl⟩
          have hr2 : id % 256 = r := by rw [← hr]; exact (Int.tmod_eq_emod_of_nonneg hx0).symm
          have hro : 0 ≤ r ∧ r < 256 := by omega
          have hst : NoS ls s (n + 1) ↔ NoS ls s n ∧ r ≠ (s : Int) := by
            constructor
            · intro q
              refine ⟨fun j y hj hy => q j y (by omega) hy, ?_⟩
              have := q n x (by omega) hx
              rwa [hid, hr2] at this
            · rintro ⟨q1, q2⟩ j y hj hy
              by_cases e : j = n
              · subst e
                obtain rfl : x = y := by rw [hx] at hy; exact Option.some.inj hy
                rwa [hid, hr2]
              · exact q1 j y (by omega) hy
          clear hid hx
          cases b with
          | false =>
            have hq : ¬ NoS ls s n := fun q => by have := hbn.2 q; cases this
            clear hbn
            go_wp2_with fail
            exact ⟨⟨n + 1, false, by omega, rfl, rfl, trivial, ⟨fun q => (by cases q), fun q => absurd (hst.1 q).1 hq⟩⟩, by simp [intOf]; omega⟩
          | true =>
            have hq := hbn.1 rfl
            clear hbn
            go_wp2_with fail
            refine ⟨⟨n + 1, r != (s : Int), by omega, rfl, rfl, trivial, ?_⟩, by simp [intOf]; omega⟩
            rw [hst]
            simp [hq]
end Go.Proofs.YtlcjkbhcbiggcaaGreatDoor
