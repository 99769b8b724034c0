/- A heap of timers whose keys are ints: the kind, and what is ahead. -/
import Derived.Test.YtbopghpfghaoeaaH1
import Derived.Deep.OwnRows
import Derived.BigQuiet
import Derived.Deep.QuietTactic
namespace Go.Proofs.Ytbopghpfghaoeaa
open Go.RowKit Go.Maps
set_option maxRecDepth 100000

/-- The order of ints. -/
def OI : Kord Int := ⟨fun a b => decide (a < b), fun a => by simp, fun a b c h k => by simp at *; omega, fun a b h k => by simp at *; omega⟩
theorem Try.infoTI : (Try.prog.info? 88).map (fun i => (i.zero, i.size, i.bytes)) = some (some (.agg #[.int .i64 0, .int .i64 0]), 2, 16) := by kernel_rfl
theorem Try.infoKI : (Try.prog.info? 3).map (fun i => (i.zero, i.size, i.bytes)) = some (some (.int .i64 0), 1, 8) := by kernel_rfl
/-- A heap whose keys are ints. -/
def KI : Kd Int where
  O := OI
  val := fun k => .int .i64 k
  lit := fun k => .int .i64 k
  ok := fun k => -9223372036854775808 ≤ k ∧ k ≤ 9223372036854775807
  ta := 85
  tt := 88
  kt := 3
  fv := .func (.func 38) #[] #[]
  inj := fun a b h => by injection h
  key := fun a h => keyOf_int_mk Try.underlying3 (q := .i64) (WalkArith.wf_i64 h)
  isk := fun a => trivial
  law := int_keyed Try.underlying3
  ne := by decide
set_option maxHeartbeats 1000000 in
theorem ahead_I (x y : Int × Int) (w : World) : Calls Try.prog 38 #[.agg #[.int .i64 x.1, .int .i64 x.2], .agg #[.int .i64 y.1, .int .i64 y.2]] w fun e w' => e = .returned (.bool (ah OI x y)) ∧ Below w.heap.size w w' := by
  obtain ⟨k1, a1⟩ := x
  obtain ⟨k2, a2⟩ := y
  have hb : ∀ o o', Below w.heap.size w ((w.alloc o).alloc o') := fun o o' => ((Below.refl _ w).alloc (Nat.le_refl _) o).alloc (by simp) o'
  by_cases h : a1 < a2
  · have e : ah OI (k1, a1) (k2, a2) = true := (ah_iff _ _ _).2 (Or.inl h)
    rw [e]
    go_enter Try.func38, Try.ntmps38
    go_wp2
    go_ret
    exact ⟨rfl, hb _ _⟩
  · by_cases h2 : a1 = a2
    · subst h2
      have e : ah OI (k1, a1) (k2, a1) = OI.lt k1 k2 := by simp [ah]
      rw [e]
      clear h e
      go_enter Try.func38, Try.ntmps38
      go_wp2
      go_ret
      exact ⟨rfl, hb _ _⟩
    · have e : ah OI (k1, a1) (k2, a2) = false := by
        cases q : ah OI (k1, a1) (k2, a2)
        · rfl
        · rw [ah_iff] at q
          rcases q with q | ⟨q, _⟩
          · exact absurd q h
          · exact absurd q h2
      rw [e]
      have h3 : (a1 == a2) = false := by simpa using h2
      clear e h2
      go_enter Try.func38, Try.ntmps38
      go_wp2
      go_ret
      exact ⟨rfl, hb _ _⟩
end Go.Proofs.Ytbopghpfghaoeaa
