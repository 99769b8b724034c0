/- annexref1's Puts, annexlaw1.want and annexlaw1.room by their contracts. -/
import Derived.Test.YtjpaooejkbkliabDoorItem
namespace Go.Proofs.YtjpaooejkbkliabDoor
open Go.RowKit
set_option maxRecDepth 100000

theorem cells_new (W : World) (C : Array Value) (t : TypeId) (k : Nat) (hk : k = W.heap.size) : ∀ j u, C.toList[j]? = some u → (W.alloc (.cells C t)).cell? ((⟨k, 0, none⟩ : Addr).add j) = some u := by
  intro j u hu
  rw [Addr.add_lit, Nat.zero_add, World.cell?_alloc_at _ _ _ _ hk]
  simpa using hu

theorem Fresh.later {w w1 w' : World} {e : Ending} {n : Nat} {bs : List Int} (hb : Below w.heap.size w w1) (h : Fresh w1 e w' n bs) : Fresh w e w' n bs := by
  obtain ⟨ao, c, h1, h2, h3⟩ := h
  exact ⟨ao, c, h1, ownsRow_mono h2 hb.size, hb.trans (h3.mono hb.size)⟩

theorem wrap_nat (n : Nat) (h : n ≤ 268435456) : IntKind.u64.wrap (n : Int) = n := by
  simp [IntKind.wrap_u64]; omega
theorem rem_zero (n j : Nat) (hj : j ≤ padN n) : ((n + j) % 4 = 0 ↔ j = padN n) := by
  unfold padN at *; omega

theorem Fresh.of_box {w w' : World} {e : Ending} {n : Nat} {bs : List Int} (C : Array Value) (t : TypeId) (h : Fresh (w.alloc (.cells C t)) e w' n bs) : Fresh w e w' n bs :=
  Fresh.later ((Below.refl _ _).alloc (Nat.le_refl _) _) h

/-- The three bytes behind a list. -/
def three : List Int := [161, 162, 163]

set_option maxHeartbeats 400000 in
theorem room30 (ao : Option Addr) (n cap : Nat) (bs : List Int) (w : World) (hn : n ≤ 268435456) (hL : Lies w ao n cap bs) :
    Calls Tryd.prog 5 #[.slice ao n cap] w fun e w' => Made w e w' (n + 3) (bs ++ three) := by
  obtain ⟨i0, hi, hz0, hz1, hz2⟩ := info_parts Tryd.info5
  go_enter Tryd.func5, Tryd.ntmps5
  go_wp2_with fail
  refine (bytes29_any ao n cap bs w (by omega) hL).mono ?_
  rintro e w1 ⟨a1, c1, rfl, hown, hb⟩
  go_wp2_with (at_builtin; refine wpList_append_own _ rfl (.tmp 6) (.tmp 7) 22 rfl w.heap.size 5 i0 (.int .u8 0) 1 1 Tryd.underlying22 hi hz0 hz1 hz2 rfl (by decide) _ _ _ rfl (hown.alloc _) ⟨w1.heap.size, 0, none⟩ 3 3 [.int .u8 161, .int .u8 162, .int .u8 163] rfl rfl (cells_new _ _ _ _ rfl) (by intro u hu; simp at hu; rcases hu with rfl | rfl | rfl <;> rfl) (by unfold maxLen; omega) (by omega) (by have := hb.size; simp; omega) ?_; intro v' w2 hown1 hgrow1 hnil1)
  go_ret
  rcases hown1.2 with ⟨hv, hn0⟩ | ⟨g, cap, cur, hv, r⟩
  · omega
  · subst hv
    exact ⟨g, cap, rfl, by simpa [three] using hown1, (hb.alloc hb.size _).grown hgrow1 (by simp; have := hb.size; omega) (fun k hk => (hown.lt k hk).1)⟩
end Go.Proofs.YtjpaooejkbkliabDoor
