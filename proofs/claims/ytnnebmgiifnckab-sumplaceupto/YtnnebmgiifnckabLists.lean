/- A list of lists of bytes that came in, opened once. -/
import Derived.Test.YtnnebmgiifnckabBulk
import Derived.Deep.Matrix
namespace Go.Proofs.Ytnnebmgiifnckab
open Go.ChangeShapes Go.WideShapes Go.ChangeAt Go.RowKit Go.Deep

theorem cellsTB : Try.prog.cellsOf 26 = 1 := by kernel_rfl

/-- A list of lists of bytes, as the walks read it. -/
structure Lists (W : World) (ao : Option Addr) (len cap : Nat) (A : Nat → Option Addr) (L C : Nat → Nat) (B : Nat → List Int) : Prop where
  hle : len ≤ cap
  hmax : len ≤ maxLen
  hnone : ao = none → len = 0 ∧ cap = 0
  hcell : ∀ ad, ao = some ad → ∀ r, r < len → W.cell? (ad.add r) = some (.slice (A r) (L r) (C r))
  hrow : ∀ r, r < len → Lies W (A r) (L r) (C r) (B r)
  hby : ∀ r, r < len → ∀ x ∈ B r, By x
  hlen : ∀ r, r < len → L r ≤ maxLen

theorem view_lists {H : Type} {enc : TypeId × Value → H} {W : World} {fuel : Nat} {a0 : Option Addr} {len cap : Nat} {d : DataW H} {p : List MemPlace}
    (hf : DataW.trod enc Try.prog W 0 (fun _ => true) true fuel 23 (Value.slice a0 len cap).cells.toList = some (d, p)) :
    ∃ (A : Nat → Option Addr) (L C : Nat → Nat) (B : Nat → List Int), Lists W a0 len cap A L C B ∧
      (len = 0 ∨ ∃ el sp, d = .slice el sp ∧ el.length = len ∧ ∀ r (h : r < el.length), L r + 1 ≤ Rows.uptoBulk el[r]) := by
  rcases open_int_rows Try.underlying23 Try.underlying26 Try.underlying5 cellsTB cells5 hf with ⟨hcs, hx⟩ | ⟨a, len', cap', A, L, C, Z, hcs, _, hl, hm, hx, hr⟩
  · simp [Value.cells] at hcs
    obtain ⟨rfl, rfl, rfl⟩ := hcs
    exact ⟨fun _ => none, fun _ => 0, fun _ => 0, fun _ => [], ⟨Nat.le_refl _, Nat.zero_le _, fun _ => ⟨rfl, rfl⟩, (fun ad h => by cases h), fun r hr => by omega, fun r hr => by omega, fun r hr => by omega⟩, Or.inl rfl⟩
  · simp [Value.cells] at hcs
    obtain ⟨rfl, rfl, rfl⟩ := hcs
    simp only [Prod.mk.injEq] at hx
    obtain ⟨rfl, rfl⟩ := hx
    refine ⟨A, L, C, fun r => (Z r).take (L r), ⟨hl, Nat.le_trans hl hm, (fun h => by cases h), fun ad h r hr' => ?_, fun r hr' => ?_, fun r hr' x hx => ?_, fun r hr' => ?_⟩, Or.inr ⟨_, _, rfl, by simp, fun r h => ?_⟩⟩
    · obtain rfl := Option.some.inj h
      exact (hr r (by omega)).1
    · obtain ⟨_, h2, _, h4, _, h6, h7⟩ := hr r (by omega)
      refine ⟨by simp; omega, h2, fun h => ?_, fun ad had t u hu => ?_⟩
      · have := h6 h
        omega
      · have ht : t < L r := by
          have := (List.getElem?_eq_some_iff.1 hu).1
          simp at this; omega
        rw [(h7 ad had).2 t (by omega)]
        have ht2 : t < (Z r).length := by omega
        simpa [List.getD, ht, ht2, List.getElem?_take] using hu
    · exact bounds_u8 ((hr r (by omega)).2.2.2.2.1 x (List.mem_of_mem_take hx))
    · obtain ⟨_, h2, h3, _⟩ := hr r (by omega)
      exact Nat.le_trans h2 h3
    · simp at h
      obtain ⟨_, h2, _, h4, _, h6, _⟩ := hr r (by omega)
      simp only [List.getElem_map, List.getElem_range]
      cases hA : A r with
      | none =>
        have := h6 hA
        have := bulk_one (intRow (H := H) .u8 none (L r) (Z r))
        omega
      | some ad =>
        have hb := bulk_len (H := H) (((Z r).take (L r)).map fun n => DataW.lit (.int .u8 n))
        simp only [intRow, lits, Rows.uptoBulk]
        simp only [List.length_map, List.length_take] at hb
        omega
end Go.Proofs.Ytnnebmgiifnckab
