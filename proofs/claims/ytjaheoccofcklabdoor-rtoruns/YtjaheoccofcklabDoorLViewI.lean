/- Lists of numbers that came in, opened once. -/
import Derived.Test.YtjaheoccofcklabDoorLView
import Derived.Test.YtjaheoccofcklabDoorSL
namespace Go.Proofs.YtjaheoccofcklabDoor
open Go.ChangeShapes Go.WideShapes Go.ChangeAt Go.RowKit
set_option maxRecDepth 100000

/-- A slice of numbers that came in, nil or not: its elements; where they lie; what it reads as. -/
theorem view {H : Type} {enc : TypeId × Value → H} {W : World} {fuel : Nat} {a0 : Option Addr} {len cap : Nat} {d : DataW H} {p : List MemPlace} {t e : TypeId} {k : IntKind} (ht : Tryd.prog.underlying t = some (.slice e)) (he : Tryd.prog.underlying e = some (.int k)) (hc : Tryd.prog.cellsOf e = 1)
    (hf : DataW.trod enc Tryd.prog W 0 (fun _ => true) true fuel t (Value.slice a0 len cap).cells.toList = some (d, p)) :
    ∃ Z : List Int, Z.length = len ∧ len ≤ cap ∧ (a0 = none → len = 0 ∧ cap = 0) ∧ (∀ ad, a0 = some ad → ∀ t, t < len → W.cell? (ad.add t) = some (.int k (Z.getD t 0))) ∧
      (∀ n ∈ Z, (Lit.int k n).wf = true) ∧ (len = 0 ∨ ∃ sp, d = .slice (lits k Z) sp) := by
  rcases open_ints ht he hc hf with ⟨hcs, hx⟩ | ⟨a, len', cap', zs, hcs, _, hl, hm, hz, hx, hcell, hwz⟩
  · simp [Value.cells] at hcs
    obtain ⟨rfl, rfl, rfl⟩ := hcs
    exact ⟨[], rfl, Nat.le_refl _, fun _ => ⟨rfl, rfl⟩, (fun ad h => by cases h), (fun n hn => by cases hn), Or.inl rfl⟩
  · simp [Value.cells] at hcs
    obtain ⟨rfl, rfl, rfl⟩ := hcs
    simp only [Prod.mk.injEq] at hx
    obtain ⟨rfl, rfl⟩ := hx
    simp only [if_true] at hz
    refine ⟨zs.take len, (by simp; omega), hl, (fun h => by cases h), fun ad h t ht => ?_, fun n hn => hwz n (List.mem_of_mem_take hn), Or.inr ⟨_, rfl⟩⟩
    obtain rfl := Option.some.inj h
    rw [hcell t (by omega)]
    simp [List.getD, ht]

/-- The same of ints, in the contracts' word. -/
theorem view_ints {H : Type} {enc : TypeId × Value → H} {W : World} {fuel : Nat} {a0 : Option Addr} {len cap : Nat} {d : DataW H} {p : List MemPlace}
    (hf : DataW.trod enc Tryd.prog W 0 (fun _ => true) true fuel 31 (Value.slice a0 len cap).cells.toList = some (d, p)) :
    ∃ Z : List Int, Li W a0 len cap Z ∧ (∀ x ∈ Z, -9223372036854775808 ≤ x ∧ x ≤ 9223372036854775807) ∧ (len = 0 ∨ ∃ sp, d = .slice (lits .i64 Z) sp) := by
  obtain ⟨Z, h1, h2, h3, h4, h5, h6⟩ := view Tryd.underlying31 Tryd.underlying3 cells3 hf
  exact ⟨Z, ⟨h1, h2, h3, h4⟩, fun x hx => bounds_i64 (h5 x hx), h6⟩
/-- The place j of a sized row, a list of ints. -/
theorem reach_ints {H : Type} {ts : List TypeId} {ds : List (DataW H)} {len : Nat} {Z : List Int} {d : DataW H} {j : Nat} (hsz : (DataW.weightsEach Tryd.prog ts ds).all (· ≤ reachBytes) = true) (ht : ts[j]? = some 31) (hd : ds[j]? = some d) (hZ : Z.length = len) (h : len = 0 ∨ ∃ sp, d = .slice (lits .i64 Z) sp) : len ≤ 17592186043904 := by
  rcases h with h | ⟨sa, h⟩
  · omega
  · have := sized_slice hsz (j := j) (t := 31) (e := 3) ht (by rw [hd, h]) Tryd.underlying31
    rw [bytes3] at this
    simp only [lits, List.length_map, hZ, reachBytes] at this
    omega
end Go.Proofs.YtjaheoccofcklabDoor
