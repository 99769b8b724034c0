/- Lists of bytes that came in, opened once. -/
import Derived.Test.YtpbanjgjljdepaaRows
import Derived.Test.YtpbanjgjljdepaaTurns
import Derived.ProofKit
import Derived.OpenShut
import Derived.SizedLaws
import Derived.Deep.Slices
namespace Go.Proofs.Ytpbanjgjljdepaa
open Go.ChangeShapes Go.WideShapes Go.ChangeAt Go.RowKit Go.Deep
set_option maxRecDepth 100000

theorem own : ownKnob Try.prog.godebug = none := by kernel_rfl
theorem laidOut : laidOutB Try.prog = true := by kernel_rfl
theorem cells5 : Try.prog.cellsOf 5 = 1 := by kernel_rfl
theorem cells3 : Try.prog.cellsOf 3 = 1 := by kernel_rfl
theorem bytes5 : Try.prog.bytesOf 5 = 1 := by kernel_rfl

/-- A slice of bytes that came in, nil or not. -/
theorem view_bytes {H : Type} {enc : TypeId × Value → H} {W : World} {fuel : Nat} {a0 : Option Addr} {len cap : Nat} {d : DataW H} {p : List MemPlace}
    (hf : DataW.trod enc Try.prog W 0 (fun _ => true) true fuel 22 (Value.slice a0 len cap).cells.toList = some (d, p)) :
    ∃ Z : List Int, Lies W a0 len cap Z ∧ (∀ x ∈ Z, 0 ≤ x ∧ x ≤ 255) ∧ (len = 0 ∨ ∃ sp, d = .slice (lits .u8 Z) sp) := by
  rcases open_ints Try.underlying22 Try.underlying5 cells5 hf with ⟨hcs, hx⟩ | ⟨a, len', cap', zs, hcs, _, hl, hm, hz, hx, hcell, hwz⟩
  · simp [Value.cells] at hcs
    obtain ⟨rfl, rfl, rfl⟩ := hcs
    exact ⟨[], Lies.nil W, (fun n hn => by cases hn), Or.inl rfl⟩
  · simp [Value.cells] at hcs
    obtain ⟨rfl, rfl, rfl⟩ := hcs
    simp only [Prod.mk.injEq] at hx
    obtain ⟨rfl, rfl⟩ := hx
    simp only [if_true] at hz
    refine ⟨zs.take len, ⟨(by simp; omega), hl, (fun h => by cases h), fun ad had t u hu => ?_⟩, fun n hn => bounds_u8 (hwz n (List.mem_of_mem_take hn)), Or.inr ⟨_, rfl⟩⟩
    obtain rfl := Option.some.inj had
    have ht : t < len := by
      have := (List.getElem?_eq_some_iff.1 hu).1
      simp at this; omega
    rw [hcell t (by omega)]
    rw [List.map_take, List.getElem?_take, if_pos ht, List.getElem?_map, Option.map_eq_some_iff] at hu
    obtain ⟨x, hx, rfl⟩ := hu
    simp [List.getD, hx]
/-- The place j of a sized row, a list of bytes, is of at most 2 ^ 47 - 4096. -/
theorem reach_bytes {H : Type} {ts : List TypeId} {ds : List (DataW H)} {len : Nat} {Z : List Int} {d : DataW H} {j : Nat} (hsz : (DataW.weightsEach Try.prog ts ds).all (· ≤ reachBytes) = true) (ht : ts[j]? = some 22) (hd : ds[j]? = some d) (hZ : Z.length = len) (h : len = 0 ∨ ∃ sp, d = .slice (lits .u8 Z) sp) : len ≤ 140737488351232 := by
  rcases h with h | ⟨sa, h⟩
  · omega
  · have := sized_slice hsz (j := j) (t := 22) (e := 5) ht (by rw [hd, h]) Try.underlying22
    rw [bytes5] at this
    simp only [lits, List.length_map, hZ, reachBytes] at this
    omega
theorem each_reach {H : Type} {ts : List TypeId} {ds : List (DataW H)} (hsz : (DataW.weightsEach Try.prog ts ds).all (· ≤ reachBytes) = true) {j : Nat} {t : TypeId} {d : DataW H} (ht : ts[j]? = some t) (hd : ds[j]? = some d) : ∀ n ∈ d.weights Try.prog t, n ≤ reachBytes := fun n hn => by
  simpa using List.all_eq_true.1 hsz n (DataW.weights_mem_each ht hd n hn)

end Go.Proofs.Ytpbanjgjljdepaa
