/- A list of numbers that came in. -/
import Derived.Test.YtjaheoccofcklabDoorS0
import Derived.OpenShut
namespace Go.Proofs.YtjaheoccofcklabDoor
open Go.ChangeShapes Go.WideShapes Go.RowKit
set_option maxRecDepth 100000

/-- The slice value '.slice ao len cap' reads as the numbers xs. -/
structure Li (w : World) (ao : Option Addr) (len cap : Nat) (xs : List Int) : Prop where
  hlen : xs.length = len
  hle : len ≤ cap
  hnone : ao = none → len = 0 ∧ cap = 0
  hcells : ∀ ad, ao = some ad → ∀ t, t < len → w.cell? (ad.add t) = some (.int .i64 (xs.getD t 0))
theorem Li.frame {w w' : World} {ao : Option Addr} {len cap : Nat} {xs : List Int} (h : Li w ao len cap xs) (hb : Below w.heap.size w w') : Li w' ao len cap xs :=
  ⟨h.hlen, h.hle, h.hnone, fun ad had t ht => by
    have hc := h.hcells ad had t ht
    exact (hb.cell (World.block_lt_of_cell? w _ hc)).trans hc⟩
theorem Li.at {w : World} {ao : Option Addr} {len cap : Nat} {ys : List Int} (h : Li w ao len cap ys) (hp : 0 < len) :
    ∃ b o, ao = some ⟨b, o, none⟩ ∧ ∀ t, t < len → w.cell? ⟨b, o + t, none⟩ = some (.int .i64 (ys.getD t 0)) := by
  cases ao with
  | none => have := (h.hnone rfl).1; omega
  | some ad =>
    have hc : ∀ i, i < ys.length → w.cell? (ad.add i) = some (.int .i64 (ys.getD i 0)) := fun i hi => h.hcells ad rfl i (by rw [← h.hlen]; exact hi)
    obtain ⟨b, off, rfl, hj⟩ := ints_at hc (by rw [h.hlen]; exact hp)
    exact ⟨b, off, rfl, fun t ht => hj t (by rw [h.hlen]; exact ht)⟩
end Go.Proofs.YtjaheoccofcklabDoor
