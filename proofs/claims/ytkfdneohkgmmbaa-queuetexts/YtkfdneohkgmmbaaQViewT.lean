/- A list of texts that came in, opened once. -/
import Derived.Test.YtkfdneohkgmmbaaQView
import Derived.Test.YtkfdneohkgmmbaaN5
import Derived.Deep.Strs
namespace Go.Proofs.Ytkfdneohkgmmbaa
open Go.ChangeShapes Go.WideShapes Go.ChangeAt Go.RowKit

theorem cellsStr : Try.prog.cellsOf 9 = 1 := by kernel_rfl
theorem bytesStr : Try.prog.bytesOf 9 = 16 := by kernel_rfl
/-- What a list of texts reads as. -/
def readsT {H : Type} (xs : List ByteArray) : List (DataW H) := xs.map fun s => .lit (.string s.data.toList)
/-- A list of texts that came in, nil or not: the texts, and what it reads as. -/
theorem view_texts {H : Type} {enc : TypeId × Value → H} {W : World} {fuel : Nat} {a0 : Option Addr} {len cap : Nat} {d : DataW H} {p : List MemPlace}
    (hf : DataW.trod enc Try.prog W 0 (fun _ => true) true fuel 32 (Value.slice a0 len cap).cells.toList = some (d, p)) :
    ∃ xs : List ByteArray, Lt W a0 len cap xs ∧ True ∧ (len = 0 ∨ ∃ sp, d = .slice (readsT xs) sp) := by
  rcases Deep.open_strs Try.underlying32 Try.underlying9 cellsStr hf with ⟨hcs, _⟩ | ⟨a, len', cap', m, Sx, hcs, _, hl, hm, hmm, hx, hcell⟩
  · simp [Value.cells] at hcs
    obtain ⟨rfl, rfl, rfl⟩ := hcs
    exact ⟨[], Lt.nil W, trivial, Or.inl rfl⟩
  · simp [Value.cells] at hcs
    obtain ⟨rfl, rfl, rfl⟩ := hcs
    simp only [Prod.mk.injEq] at hx
    obtain ⟨rfl, rfl⟩ := hx
    simp only [if_true] at hmm
    subst hmm
    refine ⟨(List.range len).map Sx, ⟨by simp, hl, (fun h => by cases h), fun ad had t u hu => ?_⟩, trivial, Or.inr ⟨(List.range (m - len)).map fun j => .lit (.string (Sx (len + j)).data.toList), by simp [readsT, Function.comp_def]⟩⟩
    obtain rfl := Option.some.inj had
    have ht : t < len := by
      have := (List.getElem?_eq_some_iff.1 hu).1
      simpa using this
    rw [(hcell t (by omega)).1]
    simpa [ht] using hu
theorem reach_texts {H : Type} {ts : List TypeId} {ds : List (DataW H)} {len : Nat} {xs : List ByteArray} {d : DataW H} {j : Nat} (hsz : (DataW.weightsEach Try.prog ts ds).all (· ≤ reachBytes) = true) (ht : ts[j]? = some 32) (hd : ds[j]? = some d) (hZ : xs.length = len) (h : len = 0 ∨ ∃ sp, d = .slice (readsT xs) sp) : len ≤ 8796093021952 := by
  rcases h with h | ⟨sa, h⟩
  · omega
  · have := sized_slice hsz (j := j) (t := 32) (e := 9) ht (by rw [hd, h]) Try.underlying32
    rw [bytesStr] at this
    simp only [readsT, List.length_map, hZ, reachBytes] at this
    omega
end Go.Proofs.Ytkfdneohkgmmbaa
