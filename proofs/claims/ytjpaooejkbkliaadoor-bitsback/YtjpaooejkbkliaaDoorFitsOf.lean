/- fit, of fields that came in. -/
import Derived.Test.YtjpaooejkbkliaaDoorViewItems
import Derived.Test.YtjpaooejkbkliaaDoorCut
namespace Go.Proofs.YtjpaooejkbkliaaDoor
open Go.ChangeShapes Go.WideShapes Go.ChangeAt Go.RowKit

/-- fit, of fields that came in. -/
theorem fits_of {W : World} {a0 : Option Addr} {len cap : Nat} {xs : List Itm} (hn : len ≤ 140737488351232) (hl : xs.length = len) (hnone : a0 = none → len = 0) (hsp : 0 < len → ∃ b o, a0 = some ⟨b, o, none⟩)
    (hc : ∀ b o, a0 = some ⟨b, o, none⟩ → ∀ i (h : i < xs.length) j v, (xs[i]).cells[j]? = some v → W.cell? ⟨b, o + i * 4 + j, none⟩ = some v) (hcame : ∀ x ∈ xs, Came W x) : Fits W (.slice a0 len cap) := by
  intro w1 hb
  exact fit_any a0 len cap xs w1 hn hl hnone (fun b o hbo i h j v hv => cell_later hb (hc b o hbo i (by omega) j v hv)) hsp (fun x hx => (hcame x hx).below hb (Nat.le_refl _))

end Go.Proofs.YtjpaooejkbkliaaDoor
