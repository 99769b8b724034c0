/- annexlaw2.SumPlays by its walk. -/
import Derived.Test.YtnnebmgiifnckabLists
import Derived.Test.YtnnebmgiifnckabKnown
import Derived.Test.YtnnebmgiifnckabRef
namespace Go.Proofs.Ytnnebmgiifnckab
open Go.RowKit
set_option maxRecDepth 100000

/-- The address of a list that is not empty, written out. -/
theorem Lists.at {W : World} {ao : Option Addr} {len cap : Nat} {A : Nat → Option Addr} {L C : Nat → Nat} {B : Nat → List Int} (h : Lists W ao len cap A L C B) (hp : 0 < len) :
    ∃ b o, ao = some ⟨b, o, none⟩ ∧ ∀ r, r < len → W.cell? ⟨b, o + r, none⟩ = some (.slice (A r) (L r) (C r)) := by
  cases ao with
  | none => have := (h.hnone rfl).1; omega
  | some ad =>
    have hc := h.hcell ad rfl
    obtain ⟨b, off, spot⟩ := ad
    have hspot : spot = none := by simpa [Addr.add] using World.cell?_spot (hc 0 hp)
    subst hspot
    exact ⟨b, off, rfl, fun j hj => by rw [← Go.WideShapes.add_plain]; exact hc j hj⟩

theorem Lists.below {W W' : World} {ao : Option Addr} {len cap : Nat} {A : Nat → Option Addr} {L C : Nat → Nat} {B : Nat → List Int} (h : Lists W ao len cap A L C B) (hb : Below W.heap.size W W') : Lists W' ao len cap A L C B :=
  ⟨h.hle, h.hmax, h.hnone, fun ad had r hr => cell_later hb (h.hcell ad had r hr), fun r hr => (h.hrow r hr).below hb (Nat.le_refl _), h.hby, h.hlen⟩

set_option maxHeartbeats 400000 in
theorem plays_zero (h : Int) (ao : Option Addr) (c : Nat) (w : World) :
    Calls Try.prog 3 #[.int .u64 h, .slice ao 0 c] w fun e w' => e = .returned (.bool true) ∧ Below w.heap.size w w' := by
  go_enter Try.func3, Try.ntmps3
  go_wp2_with fail
  refine (known_any w).mono ?_
  rintro e w1 ⟨rfl, hb⟩
  go_wp2_with fail
  refine wp_loop_rounds 1 ?_
  rw [rounds_succ]
  go_wp2_with fail
  refine (known_any w1).mono ?_
  rintro e w2 ⟨rfl, hb2⟩
  go_wp2_with fail
  go_ret
  exact ⟨rfl, hb.trans (hb2.mono hb.size)⟩

set_option maxHeartbeats 800000 in
theorem plays_pos (h : Int) (ao : Option Addr) (n c : Nat) (A : Nat → Option Addr) (L C : Nat → Nat) (B : Nat → List Int) (w : World) (h0 : 0 < n) (hLs : Lists w ao n c A L C B) :
    Calls Try.prog 3 #[.int .u64 h, .slice ao n c] w fun e w' => e = .returned (.bool true) ∧ Below w.heap.size w w' := by
  have hmax : n ≤ 9223372036854775807 := hLs.hmax
  have hni : (n : Int) ≤ 9223372036854775807 := by omega
  obtain ⟨b, o, rfl, _⟩ := hLs.at h0
  go_enter Try.func3, Try.ntmps3
  go_wp2_with fail
  refine (known_any w).mono ?_
  rintro e w1 ⟨rfl, hb⟩
  have hL1 := hLs.below hb
  obtain ⟨b', o', hbo, hcs⟩ := hL1.at h0
  cases hbo
  clear hLs
  go_wp2_with fail
  go_loopw [0, 6] (fun g i wr => ∃ (k : Nat) (G : Int), k ≤ n ∧ i = .int .i64 k ∧ g = .int .u64 G ∧ wr = w1) (fun _ i _ => n - (intOf i).toNat)
  case atStart => exact ⟨0, h, Nat.zero_le _, rfl, rfl, rfl⟩
  case round =>
    obtain ⟨k, G, hk, rfl, rfl, hwr⟩ := hrel
    subst wr
    by_cases hlt : k < n
    · have hkn : (k : Int) < n := by omega
      have hck := hcs k hlt
      have hR := hL1.hrow k hlt
      have hby := hL1.hby k hlt
      have hlr : L k ≤ 9223372036854775807 := hL1.hlen k hlt
      clear hL1 hcs
      generalize A k = ak at *
      generalize L k = lk at *
      generalize C k = ck at *
      generalize B k = bk at *
      go_wp2_with fail
      refine (sum_any ak lk ck bk _ hlr hR hby).mono ?_
      rintro e w2 ⟨rfl, hw2⟩
      subst w2
      go_wp2_with fail
      refine (rsum_any ak lk ck bk _ hlr hR hby).mono ?_
      rintro e w2 ⟨rfl, hw2⟩
      subst w2
      go_wp2_with fail
      refine (more_any G ak lk ck bk _ hlr hR hby).mono ?_
      rintro e w2 ⟨rfl, hw2⟩
      subst w2
      go_wp2_with fail
      refine (rmore_any G ak lk ck bk _ hlr hR hby).mono ?_
      rintro e w2 ⟨rfl, hw2⟩
      subst w2
      go_wp2_with fail
      refine (back_any G ak lk ck bk _ hlr hR hby).mono ?_
      rintro e w2 ⟨rfl, hw2⟩
      subst w2
      go_wp2_with fail
      refine (rback_any G ak lk ck bk _ hlr hR hby).mono ?_
      rintro e w2 ⟨rfl, hw2⟩
      subst w2
      clear hby hR
      generalize fwd 14695981039346656037 bk = z1
      generalize fwd G bk = z2
      generalize bwd G bk = z3
      go_wp2_with fail
      go_roundw
      case rel => exact ⟨k + 1, z2, by omega, by go_num, rfl, by trivial⟩
      case measure => simp [intOf]; omega
    · have hkn : (n : Int) ≤ k := by omega
      clear hL1 hcs
      go_wp2_with fail
      refine (known_any w1).mono ?_
      rintro e w2 ⟨rfl, hb2⟩
      go_wp2_with fail
      go_ret
      exact ⟨rfl, hb.trans (hb2.mono hb.size)⟩

theorem plays_any (h : Int) (ao : Option Addr) (n c : Nat) (A : Nat → Option Addr) (L C : Nat → Nat) (B : Nat → List Int) (w : World) (hLs : Lists w ao n c A L C B) :
    Calls Try.prog 3 #[.int .u64 h, .slice ao n c] w fun e w' => e = .returned (.bool true) ∧ Below w.heap.size w w' := by
  by_cases h0 : 0 < n
  · exact plays_pos h ao n c A L C B w h0 hLs
  · obtain rfl : n = 0 := by omega
    exact plays_zero h ao c w
end Go.Proofs.Ytnnebmgiifnckab
