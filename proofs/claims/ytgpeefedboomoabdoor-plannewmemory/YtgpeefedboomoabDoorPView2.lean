/- Lists of numbers that came in, opened once. -/
import Derived.Test.YtgpeefedboomoabDoorPView
import Derived.Test.YtgpeefedboomoabDoorSame
namespace Go.Proofs.YtgpeefedboomoabDoor
open Go.ChangeShapes Go.WideShapes Go.ChangeAt Go.RowKit
set_option maxRecDepth 100000

/-- A slice of numbers that came in, nil or not: its elements; where they lie; what it reads as. -/
theorem view {H : Type} {enc : TypeId × Value → H} {W : World} {fuel : Nat} {a0 : Option Addr} {len cap : Nat} {d : DataW H} {p : List MemPlace} {t e : TypeId} {k : IntKind} (ht : Tryd.prog.underlying t = some (.slice e)) (he : Tryd.prog.underlying e = some (.int k)) (hc : Tryd.prog.cellsOf e = 1)
    (hf : DataW.trod enc Tryd.prog W 0 (fun _ => true) true fuel t (Value.slice a0 len cap).cells.toList = some (d, p)) :
    ∃ Z : List Int, Z.length = len ∧ len ≤ cap ∧ (a0 = none → len = 0 ∧ cap = 0) ∧ (∀ ad, a0 = some ad → ∀ t, t < len → W.cell? (ad.add t) = some (.int k (Z.getD t 0))) ∧
      (∀ n ∈ Z, (Lit.int k n).wf = true) ∧ (len = 0 ∨ ∃ sp, d = .slice (lits k Z) sp) := by
  rcases open_ints ht he hc hf with ⟨hcs, hx⟩ | ⟨a, len', cap', zs, hcs, _, hl, hm, hz, hx, hcell, hwz⟩
  · simp [Value.cells] at hcs
    obtain ⟨rfl, rfl, rfl⟩ := hcs
    exact ⟨[], rfl, Nat.le_refl _, fun _ => ⟨rfl, rfl⟩, (fun ad h => by cases h), (fun n hn => by cases hn), Or.inl rfl⟩
  · simp [Value.cells] at hcs
    obtain ⟨rfl, rfl, rfl⟩ := hcs
    simp only [Prod.mk.injEq] at hx
    obtain ⟨rfl, rfl⟩ := hx
    simp only [if_true] at hz
    refine ⟨zs.take len, (by simp; omega), hl, (fun h => by cases h), fun ad h t ht => ?_, fun n hn => hwz n (List.mem_of_mem_take hn), Or.inr ⟨_, rfl⟩⟩
    obtain rfl := Option.some.inj h
    rw [hcell t (by omega)]
    simp [List.getD, ht]

/-- The same of bytes, in the contracts' word. -/
theorem view_bytes {H : Type} {enc : TypeId × Value → H} {W : World} {fuel : Nat} {a0 : Option Addr} {len cap : Nat} {d : DataW H} {p : List MemPlace}
    (hf : DataW.trod enc Tryd.prog W 0 (fun _ => true) true fuel 26 (Value.slice a0 len cap).cells.toList = some (d, p)) :
    ∃ Z : List Int, Lies W a0 len cap Z ∧ (∀ x ∈ Z, 0 ≤ x ∧ x ≤ 255) ∧ (len = 0 ∨ ∃ sp, d = .slice (lits .u8 Z) sp) := by
  obtain ⟨Z, h1, h2, h3, h4, h5, h6⟩ := view Tryd.underlying26 Tryd.underlying5 cells5 hf
  refine ⟨Z, ⟨h1, h2, h3, fun ad had t u hu => ?_⟩, fun x hx => ?_, h6⟩
  · have ht : t < len := by
      have := (List.getElem?_eq_some_iff.1 hu).1
      rw [← h1]; simpa using this
    rw [h4 ad had t ht]
    have ht' : t < Z.length := by omega
    simpa [List.getD, ht'] using hu
  · exact bounds_u8 (h5 x hx)

theorem reach_bytes {H : Type} {ts : List TypeId} {ds : List (DataW H)} {len : Nat} {Z : List Int} {d : DataW H} {j : Nat} (hsz : (DataW.weightsEach Tryd.prog ts ds).all (· ≤ reachBytes) = true) (ht : ts[j]? = some 26) (hd : ds[j]? = some d) (hZ : Z.length = len) (h : len = 0 ∨ ∃ sp, d = .slice (lits .u8 Z) sp) : len ≤ 140737488351232 := by
  rcases h with h | ⟨sa, h⟩
  · omega
  · have := sized_slice hsz (j := j) (t := 26) (e := 5) ht (by rw [hd, h]) Tryd.underlying26
    rw [bytes5] at this
    simp only [lits, List.length_map, hZ, reachBytes] at this
    omega
theorem each_reach {H : Type} {ts : List TypeId} {ds : List (DataW H)} (hsz : (DataW.weightsEach Tryd.prog ts ds).all (· ≤ reachBytes) = true) {j : Nat} {t : TypeId} {d : DataW H} (ht : ts[j]? = some t) (hd : ds[j]? = some d) : ∀ n ∈ d.weights Tryd.prog t, n ≤ reachBytes := fun n hn => by
  simpa using List.all_eq_true.1 hsz n (DataW.weights_mem_each ht hd n hn)

end Go.Proofs.YtgpeefedboomoabDoor
