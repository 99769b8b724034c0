/- A list of numbers that came in, opened once; the witness's world. -/
import Derived.Test.YtjpaooejkbkliabDoorCards
import Derived.Test.YtjpaooejkbkliabDoorTie
import Derived.Test.YtjpaooejkbkliabDoorLaid
import Derived.ProofKit
import Derived.LaidMore
import Derived.OpenShut
import Derived.SizedLaws
import Derived.Stop.Joined
import Derived.SevenTiedAt
namespace Go.Proofs.YtjpaooejkbkliabDoor
open Go.ChangeShapes Go.WideShapes Go.ChangeAt Go.RowKit

theorem own : ownKnob Tryd.prog.godebug = none := by kernel_rfl
theorem laidOut : laidOutB Tryd.prog = true := by kernel_rfl
theorem cells5 : Tryd.prog.cellsOf 5 = 1 := by kernel_rfl
theorem cells3 : Tryd.prog.cellsOf 3 = 1 := by kernel_rfl
theorem bytes5 : Tryd.prog.bytesOf 5 = 1 := by kernel_rfl
theorem bytes3 : Tryd.prog.bytesOf 3 = 8 := by kernel_rfl

theorem door_met (os : Os) (args : Array Value) : laidMetH Tryd.prog laid5 ((World.doorLaid Tryd.prog 400 os).forCall (fun _ _ => 0) ⟨#[], args, []⟩).memory :=
  laidMetH_of_parts3 (fuel := 8) (laidMet_of_run' 8 (by kernel_rfl) (by kernel_rfl)) (by kernel_rfl) (by kernel_rfl)

/-- A slice of numbers that came in, nil or not: its elements; where they lie; what it reads as. -/
theorem view {H : Type} {enc : TypeId × Value → H} {W : World} {fuel : Nat} {a0 : Option Addr} {len cap : Nat} {d : DataW H} {p : List MemPlace} {t e : TypeId} {k : IntKind} (ht : Tryd.prog.underlying t = some (.slice e)) (he : Tryd.prog.underlying e = some (.int k)) (hc : Tryd.prog.cellsOf e = 1)
    (hf : DataW.trod enc Tryd.prog W 0 (fun _ => true) true fuel t (Value.slice a0 len cap).cells.toList = some (d, p)) :
    ∃ Z : List Int, Z.length = len ∧ len ≤ cap ∧ (a0 = none → len = 0 ∧ cap = 0) ∧ (∀ ad, a0 = some ad → ∀ t, t < len → W.cell? (ad.add t) = some (.int k (Z.getD t 0))) ∧
      (∀ n ∈ Z, (Lit.int k n).wf = true) ∧ (len = 0 ∨ ∃ sp, d = .slice (lits k Z) sp) := by
  rcases open_ints ht he hc hf with ⟨hcs, hx⟩ | ⟨a, len', cap', zs, hcs, _, hl, hm, hz, hx, hcell, hwz⟩
  · simp [Value.cells] at hcs
    obtain ⟨rfl, rfl, rfl⟩ := hcs
    exact ⟨[], rfl, Nat.le_refl _, fun _ => ⟨rfl, rfl⟩, (fun ad h => by cases h), (fun n hn => by cases hn), Or.inl rfl⟩
  · simp [Value.cells] at hcs
    obtain ⟨rfl, rfl, rfl⟩ := hcs
    simp only [Prod.mk.injEq] at hx
    obtain ⟨rfl, rfl⟩ := hx
    simp only [if_true] at hz
    refine ⟨zs.take len, (by simp; omega), hl, (fun h => by cases h), fun ad h t ht => ?_, fun n hn => hwz n (List.mem_of_mem_take hn), Or.inr ⟨_, rfl⟩⟩
    obtain rfl := Option.some.inj h
    rw [hcell t (by omega)]
    simp [List.getD, ht]

/-- The same of bytes, in the contracts' word. -/
theorem view_bytes {H : Type} {enc : TypeId × Value → H} {W : World} {fuel : Nat} {a0 : Option Addr} {len cap : Nat} {d : DataW H} {p : List MemPlace}
    (hf : DataW.trod enc Tryd.prog W 0 (fun _ => true) true fuel 22 (Value.slice a0 len cap).cells.toList = some (d, p)) :
    ∃ Z : List Int, Lies W a0 len cap Z ∧ (∀ x ∈ Z, 0 ≤ x ∧ x ≤ 255) ∧ (len = 0 ∨ ∃ sp, d = .slice (lits .u8 Z) sp) := by
  obtain ⟨Z, h1, h2, h3, h4, h5, h6⟩ := view Tryd.underlying22 Tryd.underlying5 cells5 hf
  refine ⟨Z, ⟨h1, h2, h3, fun ad had t u hu => ?_⟩, fun x hx => ?_, h6⟩
  · have ht : t < len := by
      have := (List.getElem?_eq_some_iff.1 hu).1
      rw [← h1]; simpa using this
    rw [h4 ad had t ht]
    have ht' : t < Z.length := by omega
    simpa [List.getD, ht'] using hu
  · exact bounds_u8 (h5 x hx)
end Go.Proofs.YtjpaooejkbkliabDoor
